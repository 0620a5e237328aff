import PyProof.Rows.All
import Wide.All
import OpenK.AllK
import Wide.FinOn
import HandS.ForMost
import HandS.Codes
import HandS.IsInst
import HandS.WideBits
import KE.Datum
import PyProof.ReprRoads
import PyProof.ReprLen
import PyProof.Rows.SetFrom
import HandS.Set
import HandS.SetFor
import HandS.Strs
import HandS.SortInts
import HandS.Star
import HandS.HotCalls
import PyProof.TupleIter
import HandS.ForExc
import HandS.ExcInit
import HandS.ExcField
import HandS.ExcCtx
import HandS.FStr
import KE.KExcIs
import HandS.Sort
import HandS.Conv
import HandS.Iter
import KE.KDictList
import HandS.Comp
import HandS.DictComp
import HandS.Walk
import HandS.FStrTup
import PyProof.ReprHeads
import HandS.More
import HandS.Deep
import HandS.Small
import HandS.Wide
import HandS.ExcInitHot
import HandS.SortKw
import PySem.Challenge.RW_cellcloth_k48_whole_runs_of_cells
set_option Elab.async false
set_option linter.all false
set_option maxRecDepth 100000
set_option maxHeartbeats 4000000
/-! data with a Lean type in the abstract heap: what a value holds, kept by growth; the heap but for what is mutable -/
namespace V0
open PySem PySem.Spec PyProof.Rows L2
open PySem.W (Datum)
/-- a def of the text as callers need it -/
structure Def (K : PySem.W.Frag) (mg : Str → Option Value) (x : Str) (f : Addr) (fd : FuncData) (ps : List Str) : Prop where
  m : mg x = some (.ref f)
  k : PySem.W.keepIn K (.ref f) = true
  b : Binds K fd ps []
abbrev vLen (K : PySem.W.Frag) : List V → Hp → VK → Prop := fun xs H Q => ∃ p ys, xs = [.ref p] ∧ (SqL K H p ys ∨ SqT K H p ys) ∧ Q (.int ys.length) H
abbrev vListOf (K : PySem.W.Frag) : List V → Hp → VK → Prop := fun xs H Q => ∃ p ys, xs = [.ref p] ∧ (SqL K H p ys ∨ SqT K H p ys) ∧ ∀ l, H l = none → Q (.ref l) (upd H l (.lst ys))
abbrev vTupleOf (K : PySem.W.Frag) : List V → Hp → VK → Prop := fun xs H Q => ∃ p ys, xs = [.ref p] ∧ ((SqL K H p ys ∧ ∀ l, H l = none → Q (.ref l) (upd H l (.tup ys))) ∨ (SqT K H p ys ∧ Q (.ref p) H))
/-- a statement that is never reached -/
theorem ps_never {X : Cx} {st : Stmt} : PS X st (fun _ _ _ => False) := ⟨fun _ _ _ _ _ _ h => h.elim⟩
def tTru (K : PySem.W.Frag) (ta : TE) : TT := fun σ H Q => ta σ H fun x H' => ∃ k, TruV K x H' k ∧ Q k H'
/-- as pt_truth, K told -/
theorem pt_truthK {X : Cx} {K : PySem.W.Frag} {a : Expr} {ta : TE} (hK : X.K = K) (ha : PE X a ta) (he : ∀ whole, isTrue a X.env whole = (do let v ← whole; standAt a.pos; holding [v] (truthy v))) :
    PT X a (tTru K ta) := by
  subst hK
  exact pt_truth ha he
theorem hu65 {A : Around} {k : Nat} (hr : Room k A) : A.units + 65 < cLine := by
  have := hr.un
  omega
theorem same_new {H : Hp} {p : Addr} {o : HO} (h : H p = none) : Same H (upd H p o) := fun b x e => by
  rw [upd_ne (ne_of_none e h)]
  exact e
theorem same_mut {H H' : Hp} {p : Addr} {o : HO} (e : Same H H') (h : H p = none) : Same H (upd H' p o) := fun a u ha => by
  rw [upd_ne (ne_of_none ha h)]
  exact e a u ha
theorem tup_same {K : PySem.W.Frag} {H H' : Hp} {a : Addr} {xs : List V} (e : Same H H') (h : SqT K H a xs) : SqT K H' a xs := by
  rcases h with (h | ⟨o, h⟩) | h
  · exact .inl (.inl (e _ _ h))
  · exact .inl (.inr ⟨o, e _ _ h⟩)
  · exact .inr h
theorem map_range_succ {α : Type} (f : Nat → α) (i : Nat) : (List.range (i + 1)).map f = (List.range i).map f ++ [f i] := by
  rw [List.range_succ, List.map_append]
  rfl
/-! ### data -/
class Dm (α : Type) [DecidableEq α] extends Datum α where
  lay : ∀ a : α, (Datum.toD a).canLay0 = true
instance : Dm Int where
  lay _ := by simp only [Datum.toD, PyData.canLay0]
instance : Dm Bool where
  lay _ := by simp only [Datum.toD, PyData.canLay0]
instance : Datum Nat where
  toD n := .int (n : Int)
  plain _ := rfl
  eqv a b := by
    simp only [PyData.eqv]
    rw [PySem.W.beq_decide]
    exact decide_eq_decide.mpr ⟨fun e => by omega, fun e => by rw [e]⟩
  depth := 0
  depth_le _ := Nat.le_refl _
instance : Dm Nat where
  lay _ := by simp only [Datum.toD, PyData.canLay0]
section
variable {α β : Type} [DecidableEq α] [Dm α] [DecidableEq β] [Dm β]
theorem lay_all : ∀ xs : List α, PyData.canLayAll0 (xs.map Datum.toD) = true
  | [] => by simp only [List.map_nil, PyData.canLayAll0]
  | x :: xs => by
    rw [List.map_cons, PyData.canLayAll0, Dm.lay x, lay_all xs]
    rfl
instance : Dm (List α) where
  lay xs := by
    simp only [Datum.toD, PyData.canLay0]
    exact lay_all xs
instance : Dm (α × β) where
  lay p := by
    simp only [Datum.toD, PyData.canLay0, PyData.canLayAll0, Bool.and_true, Bool.and_eq_true]
    exact ⟨Dm.lay p.1, Dm.lay p.2⟩
end
mutual
/-- as Dp, of what stands in the abstract heap alone -/
inductive Dh (H : Hp) : V → PyData → Prop
  | non : Dh H .non .none
  | bl (b : Bool) : Dh H (.bl b) (.bool b)
  | int (i : Int) : Dh H (.int i) (.int i)
  | str (x : Str) : Dh H (.str x) (.str x)
  | lst {a : Addr} {xs : List V} {ds : List PyData} : H a = some (.lst xs) → DhAll H xs ds → Dh H (.ref a) (.list ds)
  | tup {a : Addr} {xs : List V} {ds : List PyData} : H a = some (.tup xs) → DhAll H xs ds → Dh H (.ref a) (.tuple ds)
inductive DhAll (H : Hp) : List V → List PyData → Prop
  | nil : DhAll H [] []
  | cons {v : V} {vs : List V} {d : PyData} {ds : List PyData} : Dh H v d → DhAll H vs ds → DhAll H (v :: vs) (d :: ds)
end
mutual
theorem dh_same {H H' : Hp} (s : Same H H') : ∀ (d : PyData) (v : V), Dh H v d → Dh H' v d
  | .none, _, h => by cases h; exact .non
  | .bool b, _, h => by cases h; exact .bl b
  | .int i, _, h => by cases h; exact .int i
  | .str x, _, h => by cases h; exact .str x
  | .list ds, _, h => by
    cases h with
    | lst h1 h2 => exact .lst (s _ _ h1) (dh_sameAll s ds _ h2)
  | .tuple ds, _, h => by
    cases h with
    | tup h1 h2 => exact .tup (s _ _ h1) (dh_sameAll s ds _ h2)
  | .dict _, _, h => by cases h
theorem dh_sameAll {H H' : Hp} (s : Same H H') : ∀ (ds : List PyData) (vs : List V), DhAll H vs ds → DhAll H' vs ds
  | [], _, h => by cases h; exact .nil
  | d :: ds, _, h => by
    cases h with
    | cons h1 h2 => exact .cons (dh_same s d _ h1) (dh_sameAll s ds _ h2)
end
mutual
theorem dh_dp {K : PySem.W.Frag} {H : Hp} : ∀ (d : PyData) (v : V), Dh H v d → Dp K H v d
  | .none, _, h => by cases h; exact .non
  | .bool b, _, h => by cases h; exact .bl b
  | .int i, _, h => by cases h; exact .int i
  | .str x, _, h => by cases h; exact .str x
  | .list ds, _, h => by
    cases h with
    | lst h1 h2 => exact .lst (SqL.of h1) (dh_dpAll ds _ h2)
  | .tuple ds, _, h => by
    cases h with
    | tup h1 h2 => exact .tup (SqT.of h1) (dh_dpAll ds _ h2)
  | .dict _, _, h => by cases h
theorem dh_dpAll {K : PySem.W.Frag} {H : Hp} : ∀ (ds : List PyData) (vs : List V), DhAll H vs ds → DpAll K H vs ds
  | [], _, h => by cases h; exact .nil
  | d :: ds, _, h => by
    cases h with
    | cons h1 h2 => exact .cons (dh_dp d _ h1) (dh_dpAll ds _ h2)
end
section
variable {α β : Type} [DecidableEq α] [Dm α] [DecidableEq β] [Dm β]
/-- v holds x -/
def Dv (H : Hp) (v : V) (x : α) : Prop := Dh H v (Datum.toD x)
def Dvs (H : Hp) (vs : List V) (xs : List α) : Prop := DhAll H vs (xs.map Datum.toD)
theorem Dv.same {H H' : Hp} {v : V} {x : α} (h : Dv H v x) (s : Same H H') : Dv H' v x := dh_same s _ _ h
theorem Dvs.same {H H' : Hp} {vs : List V} {xs : List α} (h : Dvs H vs xs) (s : Same H H') : Dvs H' vs xs := dh_sameAll s _ _ h
theorem Dv.int {H : Hp} (i : Int) : Dv H (.int i) i := Dh.int i
theorem Dv.nat {H : Hp} (n : Nat) : Dv H (.int (n : Int)) n := Dh.int (n : Int)
theorem Dv.bl {H : Hp} (b : Bool) : Dv H (.bl b) b := Dh.bl b
theorem Dv.int_inv {H : Hp} {v : V} {i : Int} (h : Dv H v i) : v = .int i := by
  unfold Dv at h
  cases h
  rfl
theorem Dv.nat_inv {H : Hp} {v : V} {n : Nat} (h : Dv H v n) : v = .int (n : Int) := by
  unfold Dv at h
  cases h
  rfl
theorem Dvs.nil {H : Hp} : Dvs H [] ([] : List α) := DhAll.nil
theorem Dvs.cons {H : Hp} {v : V} {vs : List V} {x : α} {xs : List α} (h : Dv H v x) (hs : Dvs H vs xs) : Dvs H (v :: vs) (x :: xs) := DhAll.cons h hs
theorem Dvs.cons_inv {H : Hp} {vs : List V} {x : α} {xs : List α} (h : Dvs H vs (x :: xs)) : ∃ v us, vs = v :: us ∧ Dv H v x ∧ Dvs H us xs := by
  unfold Dvs at h
  cases h with
  | cons h1 h2 => exact ⟨_, _, rfl, h1, h2⟩
theorem Dvs.nil_inv {H : Hp} {vs : List V} (h : Dvs H vs ([] : List α)) : vs = [] := by
  unfold Dvs at h
  cases h
  rfl
theorem Dvs.app {H : Hp} : ∀ {vs us : List V} {xs ys : List α}, Dvs H vs xs → Dvs H us ys → Dvs H (vs ++ us) (xs ++ ys)
  | _, _, [], _, h, g => by rw [h.nil_inv]; exact g
  | _, _, _ :: _, _, h, g => by
    obtain ⟨v, us, rfl, h1, h2⟩ := h.cons_inv
    exact .cons h1 (h2.app g)
theorem Dvs.len {H : Hp} : ∀ {vs : List V} {xs : List α}, Dvs H vs xs → vs.length = xs.length
  | _, [], h => by rw [h.nil_inv]; rfl
  | _, _ :: _, h => by
    obtain ⟨v, us, rfl, h1, h2⟩ := h.cons_inv
    rw [List.length_cons, List.length_cons, h2.len]
theorem Dvs.get {H : Hp} : ∀ {vs : List V} {xs : List α} {i : Nat} {x : α}, Dvs H vs xs → xs[i]? = some x → ∃ v, vs[i]? = some v ∧ Dv H v x
  | _, [], i, _, h, e => by simp at e
  | _, _ :: _, 0, _, h, e => by
    obtain ⟨v, us, rfl, h1, h2⟩ := h.cons_inv
    cases e
    exact ⟨_, rfl, h1⟩
  | _, _ :: _, i + 1, _, h, e => by
    obtain ⟨v, us, rfl, h1, h2⟩ := h.cons_inv
    exact h2.get (i := i) e
theorem Dvs.at {H : Hp} {vs : List V} {xs : List α} {i : Nat} {v : V} (h : Dvs H vs xs) (e : vs[i]? = some v) : ∃ x, xs[i]? = some x ∧ Dv H v x := by
  have hi : i < xs.length := by
    rw [← h.len]
    exact (List.getElem?_eq_some_iff.mp e).1
  obtain ⟨u, e2, d⟩ := h.get (List.getElem?_eq_getElem hi)
  rw [e] at e2
  cases e2
  exact ⟨_, List.getElem?_eq_getElem hi, d⟩
theorem Dv.list {H : Hp} {a : Addr} {vs : List V} {xs : List α} (h : H a = some (.lst vs)) (hs : Dvs H vs xs) : Dv H (.ref a) xs := Dh.lst h hs
theorem Dv.list_inv {H : Hp} {v : V} {xs : List α} (h : Dv H v xs) : ∃ a vs, v = .ref a ∧ H a = some (.lst vs) ∧ Dvs H vs xs := by
  unfold Dv at h
  cases h with
  | lst h1 h2 => exact ⟨_, _, rfl, h1, h2⟩
theorem Dv.pair {H : Hp} {a : Addr} {u v : V} {x : α} {y : β} (h : H a = some (.tup [u, v])) (h1 : Dv H u x) (h2 : Dv H v y) : Dv H (.ref a) (x, y) := Dh.tup h (.cons h1 (.cons h2 .nil))
theorem Dv.pair_inv {H : Hp} {v : V} {p : α × β} (h : Dv H v p) : ∃ a u w, v = .ref a ∧ H a = some (.tup [u, w]) ∧ Dv H u p.1 ∧ Dv H w p.2 := by
  unfold Dv at h
  cases h with
  | tup h1 h2 =>
    cases h2 with
    | cons h3 h4 =>
      cases h4 with
      | cons h5 h6 =>
        cases h6
        exact ⟨_, _, _, rfl, h1, h3, h5⟩
abbrev vi (xs : List Int) : List V := xs.map V.int
abbrev vn (xs : List Nat) : List V := xs.map (fun (b : Nat) => V.int (b : Int))
theorem vn_len (xs : List Nat) : (vn xs).length = xs.length := List.length_map _
theorem vn_get {xs : List Nat} {i n : Nat} (h : xs[i]? = some n) : (vn xs)[i]? = some (.int (n : Int)) := by
  rw [List.getElem?_map, h]
  rfl
theorem Dvs.ints_inv {H : Hp} : ∀ {vs : List V} {xs : List Int}, Dvs H vs xs → vs = vi xs
  | _, [], h => h.nil_inv
  | _, _ :: _, h => by
    obtain ⟨v, us, rfl, h1, h2⟩ := h.cons_inv
    rw [h1.int_inv, h2.ints_inv]
    rfl
theorem Dvs.nats_inv {H : Hp} : ∀ {vs : List V} {xs : List Nat}, Dvs H vs xs → vs = vn xs
  | _, [], h => h.nil_inv
  | _, _ :: _, h => by
    obtain ⟨v, us, rfl, h1, h2⟩ := h.cons_inv
    rw [h1.nat_inv, h2.nats_inv]
    rfl
theorem Dvs.ints {H : Hp} : ∀ xs : List Int, Dvs H (vi xs) xs
  | [] => .nil
  | x :: r => .cons (.int x) (Dvs.ints r)
theorem Dvs.nats {H : Hp} : ∀ xs : List Nat, Dvs H (vn xs) xs
  | [] => .nil
  | x :: r => .cons (.nat x) (Dvs.nats r)
theorem Dvs.bls {H : Hp} : ∀ xs : List Bool, Dvs H (xs.map V.bl) xs
  | [] => .nil
  | x :: r => .cons (.bl x) (Dvs.bls r)
/-- a list of whole numbers from 0 on -/
theorem Dv.natl {H : Hp} {a : Addr} {xs : List Nat} (h : H a = some (.lst (vn xs))) : Dv H (.ref a) xs := .list h (Dvs.nats xs)
theorem Dv.natl_inv {H : Hp} {v : V} {xs : List Nat} (h : Dv H v xs) : ∃ a, v = .ref a ∧ H a = some (.lst (vn xs)) := by
  obtain ⟨a, vs, rfl, h1, h2⟩ := h.list_inv
  rw [h2.nats_inv] at h1
  exact ⟨a, rfl, h1⟩
theorem Dv.intl {H : Hp} {a : Addr} {xs : List Int} (h : H a = some (.lst (vi xs))) : Dv H (.ref a) xs := .list h (Dvs.ints xs)
theorem Dv.intl_inv {H : Hp} {v : V} {xs : List Int} (h : Dv H v xs) : ∃ a, v = .ref a ∧ H a = some (.lst (vi xs)) := by
  obtain ⟨a, vs, rfl, h1, h2⟩ := h.list_inv
  rw [h2.ints_inv] at h1
  exact ⟨a, rfl, h1⟩
theorem shaped_of (x : α) (hd : Datum.depth α ≤ 64) : SeqAt.shaped (Datum.toD x) = true := by
  unfold SeqAt.shaped
  rw [Dm.lay x, Bool.true_and]
  exact decide_eq_true (Nat.le_trans (Datum.depth_le x) hd)
theorem eqD {K : PySem.W.Frag} {H : Hp} {x y : V} {Q : VK} {a b : α} (hx : Dv H x a) (hy : Dv H y b) (hd : Datum.depth α ≤ 64) (q : Q (.bl (decide (a = b))) H) : rEqD K x y H Q := by
  refine ⟨_, _, dh_dp _ _ hx, dh_dp _ _ hy, shaped_of a hd, shaped_of b hd, ?_⟩
  rw [Datum.eqv]
  exact q
theorem neD {K : PySem.W.Frag} {H : Hp} {x y : V} {Q : VK} {a b : α} (hx : Dv H x a) (hy : Dv H y b) (hd : Datum.depth α ≤ 64) (q : Q (.bl (!decide (a = b))) H) : rNeD K x y H Q := by
  refine ⟨_, _, dh_dp _ _ hx, dh_dp _ _ hy, shaped_of a hd, shaped_of b hd, ?_⟩
  rw [Datum.eqv]
  exact q
end
/-! ### the heap but for two objects that change -/
def res (p c : Addr) (H : Hp) : Hp := fun b => if b = p ∨ b = c then none else H b
theorem res_eq {p c b : Addr} {H : Hp} (h1 : b ≠ p) (h2 : b ≠ c) : res p c H b = H b := if_neg (fun h => h.elim h1 h2)
theorem res_some {p c b : Addr} {H : Hp} {o : HO} (h : res p c H b = some o) : b ≠ p ∧ b ≠ c ∧ H b = some o := by
  unfold res at h
  by_cases e : b = p ∨ b = c
  · rw [if_pos e] at h
    cases h
  · rw [if_neg e] at h
    exact ⟨fun z => e (.inl z), fun z => e (.inr z), h⟩
theorem res_same (p c : Addr) (H : Hp) : Same (res p c H) H := fun _ _ h => (res_some h).2.2
theorem Same.res {H H' : Hp} (s : Same H H') (p c : Addr) : Same (res p c H) (res p c H') := fun b o h => by
  obtain ⟨h1, h2, h3⟩ := res_some h
  rw [res_eq h1 h2]
  exact s _ _ h3
theorem res_of {p c b : Addr} {H : Hp} {o : HO} (h1 : b ≠ p) (h2 : b ≠ c) (h : H b = some o) : res p c H b = some o := by
  rw [res_eq h1 h2]
  exact h
/-- the heap but for one object -/
def hid (q : Addr) (H : Hp) : Hp := fun b => if b = q then none else H b
theorem hid_eq {q b : Addr} {H : Hp} (h : b ≠ q) : hid q H b = H b := if_neg h
theorem hid_some {q b : Addr} {H : Hp} {o : HO} (h : hid q H b = some o) : b ≠ q ∧ H b = some o := by
  unfold hid at h
  by_cases e : b = q
  · rw [if_pos e] at h
    cases h
  · rw [if_neg e] at h
    exact ⟨e, h⟩
theorem hid_of {q b : Addr} {H : Hp} {o : HO} (h : b ≠ q) (e : H b = some o) : hid q H b = some o := by
  rw [hid_eq h]
  exact e
theorem hid_same (q : Addr) (H : Hp) : Same (hid q H) H := fun _ _ h => (hid_some h).2
theorem hid_mono {q : Addr} {H H' : Hp} (s : Same H H') : Same (hid q H) (hid q H') := fun b o h => by
  obtain ⟨h1, h2⟩ := hid_some h
  exact hid_of h1 (s _ _ h2)
theorem hid_mut {q : Addr} {H : Hp} {o : HO} : Same (hid q H) (hid q (upd H q o)) := fun b u h => by
  obtain ⟨h1, h2⟩ := hid_some h
  exact hid_of h1 (by rw [upd_ne h1]; exact h2)
theorem hid_res_mut {p c q : Addr} {H : Hp} {o : HO} : Same (hid q (res p c H)) (hid q (res p c (upd H q o))) := fun b u h => by
  obtain ⟨h1, h2⟩ := hid_some h
  obtain ⟨h3, h4, h5⟩ := res_some h2
  exact hid_of h1 (res_of h3 h4 (by rw [upd_ne h1]; exact h5))
theorem res_upd {p c q : Addr} {H : Hp} {o : HO} (h1 : q ≠ p) (h2 : q ≠ c) : res p c (upd H q o) q = some o := by
  rw [res_eq h1 h2]
  exact upd_same
theorem res_mut {p c D : Addr} {H H' : Hp} {o : HO} (e : Same (res p c H) (res p c H')) (h : H D = none) : Same (res p c H) (res p c (upd H' D o)) := fun b u hb => by
  obtain ⟨h1, h2, h3⟩ := res_some hb
  have h4 : b ≠ D := fun z => by
    rw [z, h] at h3
    cases h3
  rw [res_eq h1 h2, upd_ne h4]
  exact (res_some (e _ _ hb)).2.2
/-- the state of the draws: the script's numbers, from 0 on, and a seed -/
structure Dr (H : Hp) (p c : Addr) : Prop where
  ne : p ≠ c
  st : ∃ (cs : List Nat) (s : Int), H p = some (.lst [.ref c, .int s]) ∧ H c = some (.lst (vn cs)) ∧ cs.length ≤ 63
theorem Dr.same {H H' : Hp} {p c : Addr} (h : Dr H p c) (s : Same H H') : Dr H' p c := by
  obtain ⟨n, cs, z, h1, h2, h3⟩ := h
  exact ⟨n, cs, z, s _ _ h1, s _ _ h2, h3⟩
theorem Dr.off {H : Hp} {p c q : Addr} (h : Dr H p c) (hq : H q = none) : q ≠ p ∧ q ≠ c := by
  obtain ⟨n, cs, z, h1, h2, h3⟩ := h
  exact ⟨fun e => (by rw [e, h1] at hq; cases hq), fun e => (by rw [e, h2] at hq; cases hq)⟩
/-- from H to H' all but the state of the draws stays -/
structure Go (p c : Addr) (H H' : Hp) : Prop where
  a : Dr H p c
  b : Dr H' p c
  s : Same (res p c H) (res p c H')
theorem Go.refl {p c : Addr} {H : Hp} (h : Dr H p c) : Go p c H H := ⟨h, h, Same.refl _⟩
theorem Go.trans {p c : Addr} {H H1 H2 : Hp} (x : Go p c H H1) (y : Go p c H1 H2) : Go p c H H2 := ⟨x.a, y.b, x.s.trans y.s⟩
theorem Go.of {p c : Addr} {H H' : Hp} (h : Dr H p c) (s : Same H H') : Go p c H H' := ⟨h, h.same s, V0.Same.res s p c⟩
theorem Go.more {p c : Addr} {H H1 H2 : Hp} (x : Go p c H H1) (s : Same H1 H2) : Go p c H H2 := x.trans (Go.of x.b s)
theorem Go.mut {p c D : Addr} {H H' : Hp} {o : HO} (x : Go p c H H') (h : H D = none) : Go p c H (upd H' D o) := by
  refine ⟨x.a, ?_, res_mut x.s h⟩
  obtain ⟨h1, h2⟩ := x.a.off h
  obtain ⟨n, cs, z, e1, e2, e3⟩ := x.b
  exact ⟨n, cs, z, (by rw [upd_ne (fun e => h1 e.symm)]; exact e1), (by rw [upd_ne (fun e => h2 e.symm)]; exact e2), e3⟩
theorem Go.get {p c b : Addr} {H H' : Hp} {o : HO} (x : Go p c H H') (h1 : b ≠ p) (h2 : b ≠ c) (h : H b = some o) : H' b = some o := by
  rw [← res_eq (p := p) (c := c) (H := H) h1 h2] at h
  exact (res_some (x.s _ _ h)).2.2
/-- what was new at H and stands at H1 stands at H' -/
theorem Go.get' {p c b : Addr} {H H1 H' : Hp} {o : HO} (x : Go p c H1 H') (d : Dr H p c) (n : H b = none) (h : H1 b = some o) : H' b = some o := x.get (d.off n).1 (d.off n).2 h
theorem Go.up {p c b : Addr} {H H' : Hp} {o : HO} (x : Go p c H H') (h : res p c H b = some o) : H' b = some o := (res_some (x.s _ _ h)).2.2
theorem Go.none {p c b : Addr} {H H' : Hp} (x : Go p c H H') (h : H' b = none) : H b = none := by
  obtain ⟨h1, h2⟩ := x.b.off h
  cases e : H b with
  | none => rfl
  | some o =>
    rw [x.get h1 h2 e] at h
    cases h
theorem Dv.up {α : Type} [DecidableEq α] [Dm α] {p c : Addr} {H : Hp} {v : V} {x : α} (h : Dv (res p c H) v x) : Dv H v x := h.same (res_same p c H)
theorem Dvs.up {α : Type} [DecidableEq α] [Dm α] {p c : Addr} {H : Hp} {vs : List V} {x : List α} (h : Dvs (res p c H) vs x) : Dvs H vs x := h.same (res_same p c H)
theorem emod_range {x m : Int} (h : 0 < m) : 0 ≤ x.fmod m ∧ x.fmod m < m := by
  rw [Int.fmod_eq_emod_of_nonneg x (by omega)]
  exact ⟨Int.emod_nonneg _ (by omega), Int.emod_lt_of_pos _ h⟩
theorem ix_nat {n j : Nat} (h : j < n) : ixN n (j : Int) = some j := by
  unfold ixN
  rw [if_pos (Int.natCast_nonneg _), if_pos (by omega), Int.toNat_natCast]
/-- what is new at H' -/
def fresh (H H' : Hp) : Hp := fun b => match H b with
  | none => H' b
  | some _ => none
theorem fresh_some {H H' : Hp} {b : Addr} {o : HO} (h : fresh H H' b = some o) : H b = none ∧ H' b = some o := by
  unfold fresh at h
  cases e : H b with
  | none =>
    rw [e] at h
    exact ⟨rfl, h⟩
  | some u =>
    rw [e] at h
    cases h
theorem fresh_of {H H' : Hp} {b : Addr} {o : HO} (h : H b = none) (e : H' b = some o) : fresh H H' b = some o := by
  unfold fresh
  rw [h]
  exact e
theorem fresh_same {H H' : Hp} : Same (fresh H H') H' := fun _ _ h => (fresh_some h).2
theorem fresh_pre {H H1 H' : Hp} (s : Same H H1) : Same (fresh H1 H') (fresh H H') := fun b o h => by
  obtain ⟨h1, h2⟩ := fresh_some h
  refine fresh_of ?_ h2
  cases e : H b with
  | none => rfl
  | some u =>
    rw [s _ _ e] at h1
    cases h1
theorem fresh_post {H H' H2 : Hp} (s : Same H' H2) : Same (fresh H H') (fresh H H2) := fun b o h => by
  obtain ⟨h1, h2⟩ := fresh_some h
  exact fresh_of h1 (s _ _ h2)
theorem fresh_hid {H H' : Hp} {q : Addr} {o : HO} (h : H q = some o) : Same (fresh H H') (hid q H') := fun b u e => by
  obtain ⟨h1, h2⟩ := fresh_some e
  refine hid_of (fun z => ?_) h2
  rw [z, h] at h1
  cases h1
/-- new at H', as H goes to H' by growth -/
theorem none_of {H H' : Hp} {b : Addr} (s : Same H H') (h : H' b = none) : H b = none := by
  cases e : H b with
  | none => rfl
  | some u =>
    rw [s _ _ e] at h
    cases h
theorem upd_id {H : Hp} {a : Addr} {o : HO} (h : H a = some o) : upd H a o = H := funext fun b => by
  by_cases e : b = a
  · rw [e, upd_same, h]
  · rw [upd_ne e]
theorem small64k {n : Nat} (h : n ≤ 65536) : n < sizeLine := Nat.lt_of_le_of_lt h (by decide)
theorem fresh_res {p c : Addr} {H H' : Hp} (d : Dr H p c) : Same (fresh H H') (res p c H') := fun b o h => by
  obtain ⟨h1, h2⟩ := fresh_some h
  obtain ⟨h3, h4⟩ := d.off h1
  exact res_of h3 h4 h2
end V0
/-! nets as data, and what the laws make of them -/
namespace V0
open PySem PySem.Spec PyProof.Rows L2
open PySem.W (Datum)
structure Net where
  ins : Nat
  starts : List Nat
  gates : List (Nat × Nat)
  nexts : List Nat
  outs : List Nat
  deriving DecidableEq
theorem eqv_net (a b : Str) : PyData.eqv (.str a) (.str b) = decide (a = b) := by
  simp only [PyData.eqv]
  exact PySem.W.beq_decide a b
instance : Datum Net where
  toD n := .tuple [.str "net", Datum.toD n.ins, Datum.toD n.starts, Datum.toD n.gates, Datum.toD n.nexts, Datum.toD n.outs]
  plain n := by simp only [PyData.plain, PyData.plainAll, Datum.plain, Bool.and_self]
  eqv a b := by
    simp only [PyData.eqv, PyData.eqvAll, Datum.eqv, Bool.and_true]
    rw [PySem.W.beq_decide, ← Bool.decide_and, ← Bool.decide_and, ← Bool.decide_and, ← Bool.decide_and, ← Bool.decide_and]
    refine decide_eq_decide.mpr ⟨fun ⟨_, h1, h2, h3, h4, h5⟩ => ?_, fun e => by rw [e]; exact ⟨rfl, rfl, rfl, rfl, rfl, rfl⟩⟩
    cases a
    cases b
    simp only at h1 h2 h3 h4 h5
    rw [h1, h2, h3, h4, h5]
  depth := 3
  depth_le n := by
    have h1 := Datum.depth_le n.ins
    have h2 := Datum.depth_le n.starts
    have h3 := Datum.depth_le n.gates
    have h4 := Datum.depth_le n.nexts
    have h5 := Datum.depth_le n.outs
    have e1 : Datum.depth Nat = 0 := rfl
    have e2 : Datum.depth (List Nat) = 1 := rfl
    have e3 : Datum.depth (List (Nat × Nat)) = 2 := rfl
    rw [e1] at h1
    rw [e2] at h2 h4 h5
    rw [e3] at h3
    simp only [PyData.depth, PyData.depthAll]
    omega
instance : Dm Net where
  lay n := by
    have h1 := Dm.lay n.ins
    have h2 := Dm.lay n.starts
    have h3 := Dm.lay n.gates
    have h4 := Dm.lay n.nexts
    have h5 := Dm.lay n.outs
    simp only [Datum.toD] at h1 h2 h3 h4 h5 ⊢
    simp only [PyData.canLay0, PyData.canLayAll0, Bool.and_true] at h1 h2 h3 h4 h5 ⊢
    rw [h2, h3, h4, h5]
    decide +kernel
section
theorem Dv.net_inv {H : Hp} {v : V} {n : Net} (h : Dv H v n) : ∃ a s g x o, v = .ref a ∧ H a = some (.tup [.str "net", .int (n.ins : Int), .ref s, .ref g, .ref x, .ref o]) ∧
    Dv H (.ref s) n.starts ∧ Dv H (.ref g) n.gates ∧ Dv H (.ref x) n.nexts ∧ Dv H (.ref o) n.outs := by
  unfold Dv at h
  cases h with
  | tup h1 h2 =>
    cases h2 with
    | cons a1 h2 =>
      cases h2 with
      | cons a2 h2 =>
        cases h2 with
        | cons a3 h2 =>
          cases h2 with
          | cons a4 h2 =>
            cases h2 with
            | cons a5 h2 =>
              cases h2 with
              | cons a6 h2 =>
                cases h2
                cases a1
                have e2 := Dv.nat_inv (n := n.ins) a2
                subst e2
                obtain ⟨s, _, rfl, _⟩ := Dv.list_inv (xs := n.starts) a3
                obtain ⟨g, _, rfl, _⟩ := Dv.list_inv (xs := n.gates) a4
                obtain ⟨x, _, rfl, _⟩ := Dv.list_inv (xs := n.nexts) a5
                obtain ⟨o, _, rfl, _⟩ := Dv.list_inv (xs := n.outs) a6
                exact ⟨_, _, _, _, _, rfl, h1, a3, a4, a5, a6⟩
theorem Dv.net {H : Hp} {a : Addr} {n : Net} {s g x o : V} (h : H a = some (.tup [.str "net", .int (n.ins : Int), s, g, x, o])) (h1 : Dv H s n.starts) (h2 : Dv H g n.gates) (h3 : Dv H x n.nexts) (h4 : Dv H o n.outs) : Dv H (.ref a) n :=
  Dh.tup h (.cons (.str _) (.cons (.int _) (.cons h1 (.cons h2 (.cons h3 (.cons h4 .nil))))))
end
/-- how many nodes there are behind the inputs and flops -/
def Net.base (n : Net) : Nat := 1 + n.ins + n.starts.length
def Net.many (n : Net) : Nat := n.base + n.gates.length
structure Net.Ok (n : Net) (ins flops most : Nat) : Prop where
  ins : n.ins ≤ ins
  fl : n.starts.length ≤ flops
  bits : ∀ b ∈ n.starts, b < 2
  most : n.gates.length ≤ most
  g : ∀ j g, n.gates[j]? = some g → g.1 < 2 * (n.base + j) ∧ g.2 < 2 * (n.base + j)
  nl : n.nexts.length = n.starts.length
  nx : ∀ x ∈ n.nexts, x < 2 * n.many
  ol : n.outs.length ≤ 3
  ox : ∀ x ∈ n.outs, x < 2 * n.many
/-- a literal's bit in a row of values -/
def bitv (row : List Nat) (l : Nat) : Nat := (row[l / 2]?.getD 0) ^^^ (l % 2)
def rowOf (gs : List (Nat × Nat)) (row : List Nat) : List Nat := gs.foldl (fun r g => r ++ [bitv r g.1 * bitv r g.2]) row
def Net.row (n : Net) (held bits : List Nat) : List Nat := rowOf n.gates (0 :: bits ++ held)
theorem rowOf_len (gs : List (Nat × Nat)) (r : List Nat) : (rowOf gs r).length = r.length + gs.length := by
  induction gs generalizing r with
  | nil => rfl
  | cons g gs ih =>
    show (rowOf gs _).length = _
    rw [ih, List.length_append, List.length_cons, List.length_cons, List.length_nil]
    omega
theorem rowOf_snoc (gs : List (Nat × Nat)) (g : Nat × Nat) (r : List Nat) : rowOf (gs ++ [g]) r = rowOf gs r ++ [bitv (rowOf gs r) g.1 * bitv (rowOf gs r) g.2] := by
  unfold rowOf
  rw [List.foldl_append]
  rfl
theorem bitv_lt {row : List Nat} (h : ∀ b ∈ row, b < 2) (l : Nat) : bitv row l < 2 := by
  have h1 : row[l / 2]?.getD 0 < 2 := by
    cases e : row[l / 2]? with
    | none => decide
    | some x => exact h x (List.mem_of_getElem? e)
  exact Nat.xor_lt_two_pow (n := 1) h1 (Nat.mod_lt _ (by decide))
theorem mul_lt2 {a b : Nat} (ha : a < 2) (hb : b < 2) : a * b < 2 := by
  have : a = 0 ∨ a = 1 := by omega
  rcases this with rfl | rfl <;> omega
theorem rowOf_lt {gs : List (Nat × Nat)} {r : List Nat} (h : ∀ b ∈ r, b < 2) : ∀ b ∈ rowOf gs r, b < 2 := by
  induction gs generalizing r with
  | nil => exact h
  | cons g gs ih =>
    refine ih (r := r ++ [_]) fun b hb => ?_
    rcases List.mem_append.mp hb with hb | hb
    · exact h b hb
    · rw [List.mem_singleton.mp hb]
      exact mul_lt2 (bitv_lt h _) (bitv_lt h _)
theorem take_snoc {α : Type} {xs : List α} {i : Nat} {x : α} (h : xs[i]? = some x) : xs.take (i + 1) = xs.take i ++ [x] := by
  rw [List.take_add_one, h]
  rfl
theorem get_snoc {α : Type} {xs : List α} {x y : α} {k : Nat} (h : (xs ++ [x])[k]? = some y) : (k < xs.length ∧ xs[k]? = some y) ∨ (k = xs.length ∧ y = x) := by
  by_cases hk : k < xs.length
  · rw [List.getElem?_append_left hk] at h
    exact .inl ⟨hk, h⟩
  · rw [List.getElem?_append_right (by omega)] at h
    have e : k - xs.length = 0 := by
      cases e : k - xs.length with
      | zero => rfl
      | succ j =>
        rw [e] at h
        simp at h
    rw [e] at h
    cases h
    exact .inr ⟨by omega, rfl⟩
theorem mem_snoc {α : Type} {P : α → Prop} {xs : List α} {x : α} (h : ∀ y ∈ xs, P y) (hx : P x) : ∀ y ∈ xs ++ [x], P y := by
  intro y hy
  rcases List.mem_append.mp hy with hy | hy
  · exact h y hy
  · rw [List.mem_singleton.mp hy]
    exact hx
theorem vn_snoc (xs : List Nat) (x : Nat) : vn xs ++ [V.int (x : Int)] = vn (xs ++ [x]) := by
  unfold vn
  rw [List.map_append]
  rfl
theorem cut_nn (xs : List Nat) {a b : Nat} (h1 : a ≤ b) (h2 : b ≤ xs.length) : cutV (vn xs) (some (a : Int)) (some (b : Int)) = vn ((xs.drop a).take (b - a)) := by
  unfold cutV
  rw [HT.sIx_nat, HT.sIx_nat, vn_len, Nat.min_eq_left h2, Nat.min_eq_left (Nat.le_trans h1 h2)]
  unfold vn
  rw [← List.map_drop, ← List.map_take]
theorem set_vn (xs : List Nat) (i x : Nat) : (vn xs).set i (.int (x : Int)) = vn (xs.set i x) := by
  unfold vn
  rw [List.map_set]
theorem mem_set {α : Type} {P : α → Prop} {xs : List α} {i : Nat} {x : α} (h : ∀ y ∈ xs, P y) (hx : P x) : ∀ y ∈ xs.set i x, P y := by
  intro y hy
  rcases List.mem_or_eq_of_mem_set hy with hy | rfl
  · exact h y hy
  · exact hx
theorem dec_bool (a b : Bool) : decide (V.bl a = V.bl b) = decide (a = b) := by rw [Bool.eq_iff_iff]; simp
theorem dec_int (a b : Int) : decide (V.int a = V.int b) = decide (a = b) := by rw [Bool.eq_iff_iff]; simp
theorem dec_nat (a b : Nat) : decide (V.int (a : Int) = V.int (b : Int)) = decide (a = b) := by
  rw [dec_int]
  exact decide_eq_decide.mpr ⟨fun e => by omega, fun e => by rw [e]⟩
theorem dec_one (a : Nat) : decide (V.int (a : Int) = V.int 1) = decide (a = 1) := dec_nat a 1
theorem flat_vn : ∀ xs : List Nat, (vn xs).all flatV = true
  | [] => rfl
  | y :: r => by
    show (true && (vn r).all flatV) = true
    rw [flat_vn r]
    rfl
theorem inV_vn (c : Nat) : ∀ xs : List Nat, inV (.int (c : Int)) (vn xs) = decide (c ∈ xs)
  | [] => by rfl
  | y :: r => by
    have ih := inV_vn c r
    show (eqV (.int (y : Int)) (.int (c : Int)) || inV (.int (c : Int)) (vn r)) = _
    rw [ih]
    show (((y : Int) == (c : Int)) || decide (c ∈ r)) = _
    by_cases h : c ∈ r
    · rw [decide_eq_true h, Bool.or_true, decide_eq_true (List.mem_cons_of_mem _ h)]
    · by_cases e : y = c
      · subst e
        rw [beq_self_eq_true, Bool.true_or, decide_eq_true List.mem_cons_self]
      · rw [beq_eq_false_iff_ne.mpr (fun z => e (by omega)), decide_eq_false h, Bool.or_false, decide_eq_false (fun m => ?_)]
        rcases List.mem_cons.mp m with m | m
        · exact e m.symm
        · exact h m
theorem bxor (a b : Nat) : Builtin.bitXor (a : Int) (b : Int) = ((a ^^^ b : Nat) : Int) := by
  rw [Bits.bitXor_pp (Int.natCast_nonneg _) (Int.natCast_nonneg _), Int.toNat_natCast, Int.toNat_natCast]
theorem fdiv_nat (a b : Nat) : ((a : Int)).fdiv (b : Int) = ((a / b : Nat) : Int) := by
  rw [Int.fdiv_eq_ediv_of_nonneg _ (by omega)]
  rfl
theorem fmod_nat (a b : Nat) : ((a : Int)).fmod (b : Int) = ((a % b : Nat) : Int) := by
  rw [Int.fmod_eq_emod_of_nonneg _ (by omega)]
  rfl
theorem nfdiv2 (a : Nat) : ((a : Int)).fdiv 2 = ((a / 2 : Nat) : Int) := fdiv_nat a 2
theorem nfmod2 (a : Nat) : ((a : Int)).fmod 2 = ((a % 2 : Nat) : Int) := fmod_nat a 2
end V0
/-! repr of data, where nothing is being shown; the law's call with what stands around it -/
namespace V0
open PySem PySem.Spec PyProof.Rows L2
open PySem.W (Datum)
def rRepr (K : PySem.W.Frag) : List V → Hp → VK → Prop := fun xs H Q => ∃ (a : Addr) (d : PyData), xs = [.ref a] ∧ Dp K H (.ref a) d ∧ (d.showable = true ∧ d.hasDict = false ∧ d.depth ≤ 60 ∧ d.shown.length ≤ sizeLine) ∧ Q (.str d.shown) H
theorem call_reprD {X : Cx} (hg : X.A.guards = some []) (hu : X.A.units + 64 < cLine) : CallR X (.builtin "repr") (rRepr X.K) := by
  intro pins s σ H xs us Q I r h
  obtain ⟨a, d, rfl, hd, ⟨h1, h2, h3, h4⟩, q⟩ := h
  obtain ⟨u, rfl, rx⟩ := vals1 r
  obtain ⟨as, rd⟩ := Dp.reads I d _ _ hd rx
  obtain rfl : u = Value.ref a := rx
  refine repr_of_reads' rd h1 (PyData.noDict_hsm h2) hg (by omega) (fun _ _ e => e) (fun h' t tk hk => ?_) h4
  exact ⟨.str _, H, I.kept hk, ⟨t, rfl⟩, q⟩
/-- data whose text is short -/
structure Sm (d : PyData) (n : Nat) : Prop where
  sh : d.showable = true
  lv : d.leavesShort 13 = true
  wt : d.weight ≤ n
structure SmA (ds : List PyData) (n : Nat) : Prop where
  sh : PyData.showableAll ds = true
  lv : PyData.leavesShortAll 13 ds = true
  wt : PyData.weightAll ds ≤ n
theorem Sm.mono {d : PyData} {n m : Nat} (h : Sm d n) (l : n ≤ m) : Sm d m := ⟨h.sh, h.lv, Nat.le_trans h.wt l⟩
theorem Sm.int {i : Int} (h : i.natAbs < 10 ^ 12) : Sm (.int i) 40 := by
  have hl : i.natAbs.log2 < 40 := by
    by_cases h0 : i.natAbs = 0
    · rw [h0]
      decide
    · exact (Nat.log2_lt h0).mpr (Nat.lt_trans h (by decide))
  refine ⟨?_, ?_, ?_⟩
  · simp only [PyData.showable, decide_eq_true_eq]
    omega
  · simp only [PyData.leavesShort, decide_eq_true_eq]
    exact PyData.shown_int_le h
  · simp only [PyData.weight]
    split <;> omega
theorem Sm.nat {n : Nat} (h : n < 10 ^ 12) : Sm (.int (n : Int)) 40 := Sm.int (by rw [Int.natAbs_natCast]; exact h)
theorem SmA.nil : SmA [] 0 := ⟨by simp only [PyData.showableAll], by simp only [PyData.leavesShortAll], by simp only [PyData.weightAll]; exact Nat.le_refl _⟩
theorem SmA.cons {d : PyData} {ds : List PyData} {n m : Nat} (h : Sm d n) (hs : SmA ds m) : SmA (d :: ds) (n + 1 + m) :=
  ⟨by simp only [PyData.showableAll, h.sh, hs.sh, Bool.and_self], by simp only [PyData.leavesShortAll, h.lv, hs.lv, Bool.and_self], by simp only [PyData.weightAll]; have := h.wt; have := hs.wt; omega⟩
theorem SmA.all {n : Nat} : ∀ {ds : List PyData}, (∀ d ∈ ds, Sm d n) → SmA ds (ds.length * (n + 1))
  | [], _ => by rw [List.length_nil, Nat.zero_mul]; exact SmA.nil
  | d :: ds, h => by
    have a := SmA.cons (h d List.mem_cons_self) (SmA.all (ds := ds) fun e he => h e (List.mem_cons_of_mem _ he))
    have e : (d :: ds).length * (n + 1) = n + 1 + ds.length * (n + 1) := by
      rw [List.length_cons, Nat.add_mul, Nat.one_mul]
      omega
    rw [e]
    exact a
theorem Sm.list {ds : List PyData} {n : Nat} (h : SmA ds n) : Sm (.list ds) n := ⟨by simp only [PyData.showable, h.sh], by simp only [PyData.leavesShort, h.lv], by simp only [PyData.weight]; exact h.wt⟩
theorem Sm.tup {ds : List PyData} {n : Nat} (h : SmA ds n) : Sm (.tuple ds) n := ⟨by simp only [PyData.showable, h.sh], by simp only [PyData.leavesShort, h.lv], by simp only [PyData.weight]; exact h.wt⟩
theorem Sm.bl (b : Bool) : Sm (.bool b) 0 := ⟨by simp only [PyData.showable], by simp only [PyData.leavesShort], by simp only [PyData.weight]; exact Nat.le_refl _⟩
section
variable {α : Type} [DecidableEq α] [Dm α]
theorem Sm.of_list {xs : List α} {n : Nat} (h : ∀ x ∈ xs, Sm (Datum.toD x) n) : Sm (Datum.toD xs) (xs.length * (n + 1)) := by
  have a := SmA.all (ds := xs.map Datum.toD) (n := n) fun d hd => by
    obtain ⟨x, hx, rfl⟩ := List.mem_map.mp hd
    exact h x hx
  rw [List.length_map] at a
  exact Sm.list a
theorem Sm.nats {xs : List Nat} (h : ∀ x ∈ xs, x < 10 ^ 12) : Sm (Datum.toD xs) (xs.length * 41) := Sm.of_list fun x hx => Sm.nat (h x hx)
theorem Sm.ints {xs : List Int} (h : ∀ x ∈ xs, x.natAbs < 10 ^ 12) : Sm (Datum.toD xs) (xs.length * 41) := Sm.of_list fun x hx => Sm.int (h x hx)
/-- what repr tells of x -/
def txt (x : α) : Str := (Datum.toD x).shown
theorem reprD {K : PySem.W.Frag} {H : Hp} {a : Addr} {x : α} {n : Nat} {Q : VK} (hx : Dv H (.ref a) x) (s : Sm (Datum.toD x) n) (hn : n ≤ 2 ^ 20) (hd : Datum.depth α ≤ 60) (q : Q (.str (txt x)) H) : rRepr K [.ref a] H Q :=
  ⟨a, _, rfl, dh_dp _ _ hx, ⟨s.sh, PyData.hasDict_of_canLay _ (Dm.lay x), Nat.le_trans (Datum.depth_le x) hd, PyData.shown_fits (by decide) (by decide) s.lv (Nat.le_trans s.wt hn)⟩, q⟩
theorem four (x : α) {n : Nat} (s : Sm (Datum.toD x) n) (hn : n ≤ 2 ^ 20) (hd : Datum.depth α ≤ 60) : (Datum.toD x).showable = true ∧ (Datum.toD x).hasDict = false ∧ (Datum.toD x).depth ≤ 60 ∧ (Datum.toD x).shown.length ≤ sizeLine :=
  ⟨s.sh, PyData.hasDict_of_canLay _ (Dm.lay x), Nat.le_trans (Datum.depth_le x) hd, PyData.shown_fits (by decide) (by decide) s.lv (Nat.le_trans s.wt hn)⟩
end
/-! ### the law's call -/
/-- the law's def from where a claim calls it -/
def LawOk (P : Program) (w : World) (K : PySem.W.Frag) (mg : Str → Option Value) (base : Heap) (f : Addr) (fd : FuncData) (ps : List Str) (sp : Sp) : Prop :=
  ∀ (s : Shared) (H : Hp) (args : Args) (us : List Value) (vs : List V) (Q : VK) (E : XK), Env0 P w K mg base callerA [] s H → BindsTo s fd args (ps.zip us) → Vals vs us → sp vs H Q E → codeAny (model P w) callerA (.call (.ref f) args) (CR CX0 [] P w H s Q E) s
theorem lawOk {P : Program} {w : World} {K : PySem.W.Frag} {mg : Str → Option Value} {base : Heap} {x qual : Str} {st : Stmt} {f : Addr} {fd : FuncData} {N ps : List Str} {k : Nat} {sp : Sp} (F : Fun K x qual st f fd) (S : FnScope N ps (defScope st)) (room : Room (k + 1) callerA)
    (len : ∀ vs H Q E, sp vs H Q E → vs.length = ps.length)
    (body : ∀ (cdv : Value) (A : Around) (outer : List Env) (s : Shared) (H : Hp) (vs : List V) (Q : VK) (E : XK), Room k (A.deeper (envOfC qual (defScope st) s.heap.objs.size f cdv)) → (A.deeper (envOfC qual (defScope st) s.heap.objs.size f cdv)).guards = some [] → sp vs H Q E →
      ∃ t, PSs (cxOf CX0 P w K mg base N qual (defScope st) f cdv A outer s H E).nox (defBody st) t ∧ t { nx := fun _ H' => Q .non H', rt := Q } (L2.start N vs) H) : LawOk P w K mg base f fd ps sp := by
  obtain ⟨_, _, _, _, _, _, cdv, _, _, rfl, look, cod⟩ := F.ex
  intro s H args us vs Q E env bind rel want
  have inK : K.In s.heap := env.mod.kin.keeps fun b o g => (env.bs b o g).1
  have free : s.heap.NoLimit := env.mod.nolimit.keeps fun b o g => (env.bs b o g).1
  have vis : ∀ y ∈ ps.zip us, (defScope st).names.lookup y.1 = some .local ∨ ((defScope st).names.lookup y.1 = some .cell ∧ ((cellsFrom (s.heap.objs.size + 1) (defScope st).names []).lookup y.1).isSome = true) := by
    rintro ⟨n, v⟩ hy
    exact (S.par n (List.of_mem_zip hy).1).imp id fun c => ⟨c, PySem.W.cellsFrom_some _ _ _ (.inl c)⟩
  refine codeAny_call_function room.depth (inK _ _ look) rfl S.co S.gen rfl (PySem.W.codeRec_of inK cod) (bind _ _ _ _ ?_)
  refine wpAny_newFunctionEnv_cells S.kind vis fun env1 he s1 made => ?_
  subst he
  refine ⟨free.keeps made.toInCall.keep, codeAny_func ?_⟩
  obtain ⟨t, ht, ok⟩ := body cdv callerA [] s H vs Q E (room.deeper _) rfl want
  have I := inv_start (CX := CX0) (E := E) S room.hd env (len _ _ _ _ want) rel made
  refine wpAny_mono ((ht.nox).run [] s1 (L2.start N vs) H _ I ok) (fun fl s' told => ?_) fun e s' told => told
  cases fl with
  | next =>
    obtain ⟨_, H', J, done⟩ := told
    exact ⟨.non, H', J.os, J.bare, J.base, J.hok, rfl, done⟩
  | ret u =>
    obtain ⟨v, _, H', J, rv, done⟩ := told
    exact ⟨v, H', J.os, J.bare, J.base, J.hok, rv, done⟩
  | brk => exact told.elim fun _ h => h.elim fun _ h => h.2.elim
  | cont => exact told.elim fun _ h => h.elim fun _ h => h.2.elim
theorem law_at {P : Program} {w : World} {K : PySem.W.Frag} {mg mb : Str → Option Value} {f a : Addr} {fd : FuncData} {x : Str} {sp : Sp} {s : Shared} {us : List Value} {ns : List Int}
    (kin : K.In s.heap) (glob : s.heap.Ns mainGlobals mg) (blt : s.heap.Ns builtinsNs mb) (same : ∀ y : Str, y ≠ "__name__" → mb y = bootBuiltins y) (free : s.heap.NoLimit) (gens : s.gens = #[])
    (script : s.heap.get? a = some { cls := .type "list", data := .seq us.toArray }) (whole : IntsAre us ns) (few : ns.length ≤ sizeLine)
    (F : ∀ base : Heap, K.In base → base.Ns mainGlobals mg → LawOk P w K mg base f fd [x] sp) (binds : ∀ (t : Shared) (u : Value), BindsTo t fd ⟨[u], []⟩ [(x, u)])
    (want : ∀ H : Hp, Only H → SqL K H a (ns.map V.int) → sp [.ref a] H (fun v _ => v = .bl true) fun _ _ _ => False) :
    codeAny (model P w) callerA (.call (.ref f) ⟨[.ref a], []⟩) (fun r t => r = .ok (.ret (.bool true)) ∧ OldK s.heap t.heap ∧ t.os = s.os ∧ AllBare t.gens) s := by
  have rel := vals_ints whole
  have long := whole.length
  -- what is tracked at the start: the script, if it is not one of the module's own objects
  obtain ⟨H, only, seq, fits, dom, own⟩ : ∃ H : Hp, Only H ∧ SqL K H a (ns.map V.int) ∧ HOk P w H s.heap ∧ (∀ b o, H b = some o → b = a) ∧ (∀ o, H a = some o → K.lookup a = none) := by
    cases kl : K.lookup a with
    | some o =>
      have g := kin a o kl
      rw [script] at g
      cases g
      refine ⟨fun _ => none, fun _ => .inl rfl, .inr ⟨_, us.toArray, _, kl, rfl, rfl, rfl, ?_, ?_⟩, ?_, ?_, ?_⟩
      · rw [List.size_toArray, long]
        exact few
      · rw [List.toList_toArray]
        exact rel
      · intro b u z
        cases z
      · intro b u z
        cases z
      · intro u z
        cases z
    | none =>
      let fz : HO := .frz { cls := .type "list", data := .seq us.toArray } (.lst (ns.map V.int))
      have at_a : (fun b => if b = a then some fz else none : Hp) a = some fz := if_pos rfl
      have off_a : ∀ {b : Addr}, b ≠ a → (fun b => if b = a then some fz else none : Hp) b = none := fun h => if_neg h
      refine ⟨fun b => if b = a then some fz else none, fun b => ?_, .inl (.inr ⟨_, at_a⟩), fun b u z => ?_, fun b u z => ?_, fun _ _ => rfl⟩
      · by_cases e : b = a
        · subst e
          exact .inr ⟨_, _, at_a⟩
        · exact .inl (off_a e)
      · by_cases e : b = a
        · subst e
          rw [at_a] at z
          cases z
          refine ⟨script, ?_, us, _, rel, script⟩
          rw [List.length_map]
          exact few
        · rw [off_a e] at z
          cases z
      · by_cases e : b = a
        · exact e
        · rw [off_a e] at z
          cases z
  have under : ∀ {b : Addr} {o : Obj}, s.heap.get? b = some o → H b = none → (hidT s.heap H).get? b = some o := fun g n => hidT_get g n
  have dicts : ∀ {b : Addr} {m : Str → Option Value}, s.heap.Ns b m → (hidT s.heap H).Ns b m := by
    rintro b m ⟨o, es, ep, g, d, r⟩
    refine ⟨o, es, ep, under g ?_, d, r⟩
    cases hb : H b with
    | none => rfl
    | some u =>
      obtain rfl := dom b u hb
      rw [script] at g
      cases g
      cases d
  have kinB : K.In (hidT s.heap H) := by
    intro b o kl
    refine under (kin b o kl) ?_
    cases hb : H b with
    | none => rfl
    | some u =>
      obtain rfl := dom b u hb
      rw [own u hb] at kl
      cases kl
  have modB : Mod K mg (hidT s.heap H) := by
    refine ⟨kinB, dicts glob, ⟨mb, dicts blt, same⟩, ?_⟩
    obtain ⟨mc, z1, z2⟩ := free
    exact ⟨mc, dicts z1, z2⟩
  have env : Env0 P w K mg (hidT s.heap H) callerA [] s H :=
    ⟨rfl, modB, fun b o g => of_hidT g, Nat.le_of_eq (hidT_size _ _), trivial, fun b hb => (by cases hb), fits, .of_eq gens⟩
  refine codeAny_mono (F _ kinB (dicts glob) s H ⟨[.ref a], []⟩ [.ref a] [.ref a] _ _ env (binds s (.ref a)) (.cons rfl .nil) (want H only seq)) fun r t told => ?_
  match r, told with
  | .error e, told => exact told.elim
  | .ok .next, told => exact told.elim
  | .ok .brk, told => exact told.elim
  | .ok .cont, told => exact told.elim
  | .ok (.ret u), ⟨v, H', os, bare, un, fits', rv, yes⟩ =>
    have yes' : v = .bl true := yes
    subst yes'
    have eu : u = Value.bool true := rv
    subst eu
    refine ⟨rfl, OldK.of_keep fun b o g => ?_, os, bare⟩
    cases hb : H b with
    | none => exact un.keep b o g hb (fun z => (by cases z)) (by simp)
    | some u2 =>
      rcases only b with z | ⟨ob, xs, z⟩
      · rw [z] at hb
        cases hb
      · obtain ⟨e1, _⟩ := fits b _ z
        obtain ⟨e2, _⟩ := fits' b _ (un.frzs b ob _ z)
        rw [g] at e1
        cases e1
        exact e2
/-- the goal that k_head leaves, where the law's promise is LawOk -/
theorem walk_at {l : PySem.W.OpenLaw} {n : Nat} {q : Program} {loose : List Str} {XP : (Str → Option Value) → Heap → Prop} {YP : World → Heap → Prop} {d : DefRec} {K : Params → PySem.W.Frag} {sp : PySem.W.Frag → Sp} {x : Str}
    (hn : l.most = some n) (hs : n ≤ sizeLine) (plain : d.params.defaults = []) (hY : ∀ (w : World) (h : Heap), YP w h → (K w.params).In h)
    (F : ∀ (w : World) (mg : Str → Option Value) (f : Addr) (h : Heap), (K w.params).In h → h.Ns mainGlobals mg → mg d.name = some (.ref f) →
      ∃ fd : FuncData, (∀ (s : Shared) (u : Value), BindsTo s fd ⟨[u], []⟩ [(x, u)]) ∧ ∀ base : Heap, (K w.params).In base → base.Ns mainGlobals mg → LawOk l.prog w (K w.params) mg base f fd [x] (sp (K w.params)))
    (want : ∀ (K : PySem.W.Frag) (H : Hp) (a : Addr) (ns : List Int), ns.length ≤ n → Only H → SqL K H a (ns.map V.int) → sp K [.ref a] H (fun v _ => v = .bl true) fun _ _ _ => False) :
    PySem.W.WalkO q loose XP YP l.row.toRowW d [] (fun f vs => PySem.call f vs) := by
  refine Att.attach_call hn plain fun w _ s1 mg mb f _ _ _ _ a us ns G Y _ _ _ named obj whole few gens => ?_
  have kin := hY w _ Y
  obtain ⟨fd, binds, told⟩ := F w mg f _ kin G.T.g named
  exact law_at kin G.T.g G.T.b G.T.builtins G.T.nolimit gens obj whole (Nat.le_trans few hs) told binds fun H only seq => want _ H a ns few only seq
end V0
/-! set(xs) of a list of whole numbers, and len of such a set -/
namespace V0
open PySem PySem.Spec PyProof.Rows L2
/-- the set that set.__new__ leaves -/
def bare (w : World) : Obj := { cls := .type "set", dict := none, data := .set #[] 0 (.fresh 0 0 (!w.params.followText "set-order")) }
section
variable {P : Program} {w : World} {A : Around} {E : Value → Shared → Prop} {s : Shared}
/-- what set.__init__ does with a list of ints -/
theorem set_filled {l : Addr} {arr : Array Value} {xs : List Int} {R : Value → Shared → Prop} (calm : A.handled = none) (lst : s.heap.IsList l arr) (num : IntsAre arr.toList xs) (few : xs.length + 1 < scanBound)
    (told : ∀ (h' : Heap) (tk c : Nat), SetR w h' s.heap.objs.size (fun j => decide (j ∈ xs)) c → c ≤ xs.length → (∀ b o, s.heap.get? b = some o → h'.get? b = some o) → R .none { s with heap := h', toks := tk }) :
    codeAny (model P w) A (.call (.builtin "set.__init__") ⟨[.ref s.heap.objs.size, .ref l], []⟩) (wants R E) { s with heap := s.heap.push (bare w) } := by
  have own : (s.heap.push (bare w)).get? s.heap.objs.size = some (bare w) := Heap.get?_push_size _ rfl
  have kind : Shared.TypeIs { s with heap := s.heap.push (bare w) } (.ref s.heap.objs.size) "set" := ⟨_, own, rfl⟩
  have many : arr.size = xs.length := by rw [← Array.length_toList, IntsAre.length num]
  refine codeAny_call_builtin F.called_set.init.plain F.entry_set_init (check_set_init_1 kind ?_)
  obtain ⟨⟨cl, od, dat, sl⟩, at_l, is_l, nn, is_d⟩ := lst
  dsimp only at is_l is_d
  subst is_l is_d
  have below := Heap.lt_size at_l
  have at_l1 : (s.heap.push (bare w)).get? l = some ⟨.type "list", od, .seq arr nn, sl⟩ := Heap.get?_push_of_some _ at_l
  have lst1 : (s.heap.push (bare w)).IsList l arr := ⟨_, at_l1, rfl, nn, rfl⟩
  have no1 := F.sub_list_set
  have no2 := F.sub_list_frozenset
  have no3 : (Value.type "list" == Value.type "dict") = false := by decide
  unfold Builtin.«set.__init__» noKeywords Builtin.Frozenset.updateFrom
  generalize walker : pyIter = PI
  wp_walk
  subst walker
  refine wpAny_pyIter_list lst1 (wpAny_bind (wpAny_runValue ?_))
  have size1 : (s.heap.push (bare w)).objs.size = s.heap.objs.size + 1 := Heap.size_push ..
  have ne1 : l ≠ (s.heap.push (bare w)).objs.size := size1 ▸ Nat.ne_of_lt (Nat.lt_succ_of_lt below)
  have calm3 : A.in1.in1.handled = none := by simp [calm]
  have out : s.heap.objs.size ∉ [(s.heap.push (bare w)).objs.size, l] := by
    intro hm
    rcases List.mem_cons.mp hm with e | hm
    · rw [size1] at e
      exact Nat.ne_of_lt (Nat.lt_succ_self _) e
    · exact Nat.ne_of_lt below (List.mem_singleton.mp hm).symm
  have each : ∀ (i : Nat) (v : Value), arr[i]? = some v → ∃ k t, xs[i]? = some k ∧ v = .int k t := by
    intro i v hv
    have hi : i < xs.length := many ▸ (Array.getElem?_eq_some_iff.mp hv).1
    obtain ⟨t, e⟩ := PyProof.Rows.IntsAre.int_at num i v ((Array.getElem?_toList ..).trans hv)
    refine ⟨xs[i], t, List.getElem?_eq_getElem hi, ?_⟩
    rw [e, List.getD_eq_getElem?_getD, List.getElem?_eq_getElem hi]
    rfl
  refine set_update_ints ((Walks.list calm3 _ l ne1 arr).toS) s.heap.objs.size out xs many few each (arr.size - 0) 0 _ (by omega) (Nat.zero_le _) ⟨⟨_, Heap.get?_push_size _ rfl, rfl, rfl⟩, lst1.push _⟩ ⟨0, Nat.le_refl 0, setR_new_at (Heap.get?_push_of_some _ own)⟩ ?_
  rintro ⟨h', g', d', tk', os'⟩ c moved bound full
  obtain rfl : g' = s.gens := moved.gens
  obtain rfl : d' = s.drawn := moved.drawn
  obtain rfl : os' = s.os := moved.os
  show wpAny _ _ _ _ _ _
  refine wpAny_pure ?_
  show wpAny _ _ (ret Value.none) _ _ _
  refine wpAny_pure (told h' tk' c full (many ▸ bound) fun b o e => ?_)
  have low := Heap.lt_size e
  refine moved.heap b o ?_ (Heap.get?_push_of_some _ (Heap.get?_push_of_some _ e))
  intro hm
  rcases List.mem_cons.mp hm with z | hm
  · exact Nat.ne_of_lt low z
  · have z := List.mem_singleton.mp hm
    rw [size1] at z
    exact Nat.ne_of_lt (Nat.lt_succ_of_lt low) z
theorem call_set_ints {l : Addr} {arr : Array Value} {xs : List Int} {Q : Value → Shared → Prop} (calm : A.handled = none) (lst : s.heap.IsList l arr) (num : IntsAre arr.toList xs) (few : xs.length + 1 < scanBound)
    (then_ : ∀ (h' : Heap) (tk c : Nat), SetR w h' s.heap.objs.size (fun j => decide (j ∈ xs)) c → c ≤ xs.length → (∀ b o, s.heap.get? b = some o → h'.get? b = some o) → Q (.ref s.heap.objs.size) { s with heap := h', toks := tk }) :
    wpAny (model P w) A (call (.type "set") [.ref l]) Q E s := by
  obtain ⟨_, _, order⟩ := F.called_set.mro
  have made := F.called_set.made
  have below := F.called_set.sub
  refine wpAny_call (codeAny_of_tree ?_)
  show wpAny _ _ (callAny (.type "set") ⟨[.ref l], []⟩) _ _ s
  refine wpAny_pure ⟨Code.quiet_builtin _ (by decide +kernel), codeAny_builtin F.entry_type_call ?_⟩
  rw [Around.under_plain (weight_type_call_type "set" [.ref l] []) rfl]
  have f1 := F.called_set.notType
  have f2 := F.called_set.canCreate
  have f3 := F.typeCall_set_1 (.ref l)
  repeat (any_goals (first | assumption | wp_step))
  refine codeAny_mono (code_set_led1 (.ref l) (E := E) (Q₁ := fun u t => u = .ref s.heap.objs.size ∧ t = { s with heap := s.heap.push (bare w) }) ⟨rfl, rfl⟩) fun r t first => ?_
  match r, first with
  | .error e, first => exact first
  | .ok .next, first => exact first.elim
  | .ok .brk, first => exact first.elim
  | .ok .cont, first => exact first.elim
  | .ok (.ret u), ⟨eu, et⟩ =>
    subst eu et
    have kind : Shared.TypeIs { s with heap := s.heap.push (bare w) } (.ref s.heap.objs.size) "set" := ⟨_, Heap.get?_push_size _ rfl, rfl⟩
    have f4 := F.called_set.init.lookup
    have f5 := F.called_set.init.bind (.ref s.heap.objs.size)
    repeat (any_goals (first | assumption | wp_step))
    refine codeAny_mono (set_filled (A := _) (E := E) (R := fun v t => v = .none ∧ ∃ h' tk c, t = { s with heap := h', toks := tk } ∧ SetR w h' s.heap.objs.size (fun j => decide (j ∈ xs)) c ∧ c ≤ xs.length ∧ (∀ b o, s.heap.get? b = some o → h'.get? b = some o)) (by simp [calm]) lst num few fun h' tk c a b k => ⟨rfl, h', tk, c, rfl, a, b, k⟩) fun r t second => ?_
    match r, second with
    | .error e, second => exact second
    | .ok .next, second => exact second.elim
    | .ok .brk, second => exact second.elim
    | .ok .cont, second => exact second.elim
    | .ok (.ret v), ⟨ev, h', tk, c, et, a, b, k⟩ =>
      subst ev et
      repeat (any_goals (first | assumption | wp_step))
      exact then_ _ _ _ a b k
end
/-- set(xs) -/
def rSetOf (K : PySem.W.Frag) (w : World) : List V → Hp → VK → Prop := fun vs H Q => ∃ (l : Addr) (xs : List Int), vs = [.ref l] ∧ SqL K H l (xs.map V.int) ∧ xs.length ≤ 4000 ∧ ∀ p c, H p = none → c ≤ xs.length → Q (.ref p) (upd H p (SetO w p (fun j => decide (j ∈ xs)) c))
theorem cr_setOf {X : Cx} (hc : X.calm = true) : CallR X (.type "set") (rSetOf X.K X.w) := by
  intro pins s σ H vs us Q I r h
  obtain ⟨l, xs, rfl, seq, few, q⟩ := h
  obtain rfl := Vals.ref1 r
  obtain ⟨its, rv, pl, _⟩ := I.list seq
  have num : IntsAre its xs := intsAre_of rv
  refine call_set_ints (I.ok.hd hc) pl.isList (by simpa using num) (by unfold scanBound; omega) fun h' tk c full bound k => ?_
  exact ⟨.ref _, _, I.laid (t' := tk) k (Nat.le_refl _) (setO_new full), rfl, q _ c (I.hok.fresh (Nat.le_refl _)) bound⟩
/-- the ascending list of what stands in xs -/
theorem asc_mem {ns : List Int} {xs : List Nat} (h1 : ns.Pairwise (· < ·)) (h2 : ∀ k : Int, k ∈ ns ↔ k ∈ xs.map (fun (x : Nat) => (x : Int))) : ∃ ys : List Nat, ns = ys.map (fun (x : Nat) => (x : Int)) ∧ ys.Pairwise (· < ·) ∧ ∀ y, y ∈ ys ↔ y ∈ xs := by
  refine ⟨ns.map Int.toNat, ?_, ?_, ?_⟩
  · rw [List.map_map]
    refine (List.map_id ns).symm.trans (List.map_congr_left fun k hk => ?_)
    obtain ⟨x, _, rfl⟩ := List.mem_map.mp ((h2 k).mp hk)
    rfl
  · rw [List.pairwise_map]
    refine h1.imp_of_mem fun {a b} ha hb hab => ?_
    obtain ⟨x, _, rfl⟩ := List.mem_map.mp ((h2 a).mp ha)
    obtain ⟨y, _, rfl⟩ := List.mem_map.mp ((h2 b).mp hb)
    show (x : Int).toNat < (y : Int).toNat
    omega
  · intro y
    rw [List.mem_map]
    constructor
    · rintro ⟨k, hk, rfl⟩
      obtain ⟨x, hx, rfl⟩ := List.mem_map.mp ((h2 k).mp hk)
      exact hx
    · intro hy
      exact ⟨(y : Int), (h2 _).mpr (List.mem_map.mpr ⟨y, hy, rfl⟩), rfl⟩
theorem asc_unique : ∀ {xs ys : List Nat}, xs.Pairwise (· < ·) → ys.Pairwise (· < ·) → (∀ y, y ∈ xs ↔ y ∈ ys) → xs = ys
  | [], [], _, _, _ => rfl
  | [], y :: ys, _, _, h => by
    have := (h y).mpr List.mem_cons_self
    cases this
  | x :: xs, [], _, _, h => by
    have := (h x).mp List.mem_cons_self
    cases this
  | x :: xs, y :: ys, h1, h2, h => by
    rw [List.pairwise_cons] at h1 h2
    have e : x = y := by
      have a := (h x).mp List.mem_cons_self
      have b := (h y).mpr List.mem_cons_self
      rcases List.mem_cons.mp a with a | a
      · exact a
      · rcases List.mem_cons.mp b with b | b
        · exact b.symm
        · have c := h1.1 y b
          have d := h2.1 x a
          omega
    subst e
    rw [asc_unique h1.2 h2.2 fun z => ?_]
    have hz := h z
    rw [List.mem_cons, List.mem_cons] at hz
    constructor
    · intro m
      rcases hz.mp (.inr m) with rfl | m2
      · exact absurd (h1.1 z m) (Nat.lt_irrefl _)
      · exact m2
    · intro m
      rcases hz.mpr (.inr m) with rfl | m2
      · exact absurd (h2.1 z m) (Nat.lt_irrefl _)
      · exact m2
abbrev toI (xs : List Nat) : List Int := xs.map (fun (b : Nat) => (b : Int))
theorem vn_int (xs : List Nat) : vn xs = (toI xs).map V.int := by
  unfold toI
  rw [List.map_map]
  rfl
/-- sorted(set(xs)) -/
theorem sorted_set_nat {K : PySem.W.Frag} {w : World} {H : Hp} {l : Addr} {xs : List Nat} {Q : VK} (h : H l = some (.lst (vn xs))) (few : xs.length < 64)
    (q : ∀ p ys H', Same H H' → H p = none → H' p = some (.lst (vn ys)) → ys.Pairwise (· < ·) → (∀ y, y ∈ ys ↔ y ∈ xs) → ys.length ≤ xs.length → Q (.ref p) H') :
    rSetOf K w [.ref l] H (fun z Hz => rSortedSet w [z] Hz Q) := by
  refine ⟨l, toI xs, rfl, SqL.of (by rw [h, vn_int]), by rw [List.length_map]; omega, fun pz c nz hc => ⟨pz, _, c, rfl, upd_same, ?_, fun ns p asc mem len np => ?_⟩⟩
  · rw [List.length_map] at hc
    omega
  · obtain ⟨ys, rfl, h1, h2⟩ := asc_mem (xs := xs) asc fun k => by rw [mem k, decide_eq_true_eq]
    rw [List.length_map] at hc len
    have s1 := same_new (o := SetO w pz (fun j => decide (j ∈ toI xs)) c) nz
    refine q p ys _ (s1.trans (same_new np)) (none_of s1 np) ?_ h1 h2 (by omega)
    rw [upd_same, vn_int]
theorem perm_asc {ns : List Int} {ks : List Nat} (h1 : ns.Perm (toI ks)) (h2 : ns.Pairwise (· ≤ ·)) (nd : ks.Nodup) : ∃ zs : List Nat, ns = toI zs ∧ zs.Pairwise (· < ·) ∧ ∀ y, y ∈ zs ↔ y ∈ ks := by
  have nd1 : (toI ks).Nodup := by
    show List.Pairwise (· ≠ ·) (List.map _ ks)
    rw [List.pairwise_map]
    have nd' : ks.Pairwise (· ≠ ·) := nd
    exact nd'.imp fun {a b} h e => h (by omega)
  have nd2 : ns.Nodup := h1.nodup_iff.mpr nd1
  have h3 : ns.Pairwise (· < ·) := by
    have h4 : ns.Pairwise (· ≠ ·) := nd2
    exact (h2.and h4).imp fun {a b} h => by omega
  exact asc_mem h3 fun k => h1.mem_iff
/-! ### marks in a dict -/
def mkD (ks : List Nat) : List (Key × V) := ks.map fun (x : Nat) => (Sum.inl (x : Int), V.bl true)
theorem mkD_val (ks : List Nat) (y : Nat) : valV (mkD ks) (Sum.inl (y : Int)) = if y ∈ ks then some (V.bl true) else none := by
  induction ks with
  | nil =>
    rw [if_neg List.not_mem_nil]
    rfl
  | cons x r ih =>
    show valV ((Sum.inl (x : Int), V.bl true) :: mkD r) _ = _
    by_cases e : x = y
    · subst e
      rw [valV_pos (p := (Sum.inl (x : Int), V.bl true)) rfl, if_pos List.mem_cons_self]
    · rw [valV_neg (p := (Sum.inl (x : Int), V.bl true)) (fun z => e (by have := Sum.inl.inj z; omega)), ih]
      by_cases h : y ∈ r
      · rw [if_pos h, if_pos (List.mem_cons_of_mem _ h)]
      · rw [if_neg h, if_neg (fun m => (List.mem_cons.mp m).elim (fun z => e z.symm) h)]
def addN (ks : List Nat) (y : Nat) : List Nat := if y ∈ ks then ks else ks ++ [y]
theorem mkD_put (ks : List Nat) (y : Nat) : putK (mkD ks) (Sum.inl (y : Int)) (V.bl true) = mkD (addN ks y) := by
  unfold addN
  have hv := mkD_val ks y
  by_cases h : y ∈ ks
  · rw [if_pos h]
    rw [if_pos h] at hv
    have ha : ((mkD ks).any fun kv => decide (kv.1 = Sum.inl (y : Int))) = true := by rw [valV_any, hv]; rfl
    unfold putK
    rw [if_pos ha]
    unfold mkD
    rw [List.map_map]
    refine List.map_congr_left fun x _ => ?_
    show (if (Sum.inl (x : Int) : Key) = Sum.inl (y : Int) then ((Sum.inl (x : Int) : Key), V.bl true) else (Sum.inl (x : Int), V.bl true)) = _
    split <;> rfl
  · rw [if_neg h] at hv ⊢
    rw [putK_new _ hv]
    unfold mkD
    rw [List.map_append]
    rfl
theorem addN_mem (ks : List Nat) (y z : Nat) : z ∈ addN ks y ↔ z ∈ ks ∨ z = y := by
  unfold addN
  split
  · rename_i h
    constructor
    · exact .inl
    · rintro (m | rfl)
      · exact m
      · exact h
  · rw [List.mem_append, List.mem_singleton]
theorem addN_nodup {ks : List Nat} (h : ks.Nodup) (y : Nat) : (addN ks y).Nodup := by
  unfold addN
  split
  · exact h
  · rename_i hy
    rw [List.nodup_append]
    refine ⟨h, by simp, fun a ha b hb e => ?_⟩
    rw [List.mem_singleton.mp hb] at e
    exact hy (e ▸ ha)
theorem sum_int : ∀ xs : List Nat, (toI xs).sum = ((xs.sum : Nat) : Int)
  | [] => rfl
  | b :: r => by
    show ((b : Int) :: toI r).sum = ((b + r.sum : Nat) : Int)
    rw [List.sum_cons, sum_int r]
    omega
end V0
/-! set(xs) of a long list of whole numbers that are few -/
namespace V0
open PySem PySem.Spec PyProof.Rows L2
theorem nodup_sub_len {xs ds : List Int} (h : xs.Nodup) (s : ∀ x ∈ xs, x ∈ ds) : xs.length ≤ ds.length := by
  induction xs generalizing ds with
  | nil => exact Nat.zero_le _
  | cons x r ih =>
    have h1 := List.nodup_cons.mp h
    have hx := s x List.mem_cons_self
    have := ih (ds := ds.erase x) h1.2 fun y hy => by
      refine (List.mem_erase_of_ne fun e => ?_).mpr (s y (List.mem_cons_of_mem _ hy))
      subst e
      exact h1.1 hy
    rw [List.length_erase_of_mem hx] at this
    have hp := List.length_pos_of_mem hx
    show r.length + 1 ≤ _
    omega
section
variable {P : Program} {w : World} {A : Around} {E : Value → Shared → Prop} {s : Shared}
theorem set_update_few {I : Addr} {fp wr : List Addr} {G : Array GenState → Array GenState → Prop} {n : Nat} {Pv : Nat → Value → Prop} {St : Nat → Shared → Prop} {R : Result → Shared → Prop}
    (W : WalksS P w A.in1 I fp wr G n Pv St) (S : Addr) (hSf : S ∉ fp) (ns ds : List Int) (hn : n = ns.length) (sub : ∀ x ∈ ns, x ∈ ds) (hb : ds.length + 1 < scanBound) (hval : ∀ i v, Pv i v → ∃ k t, ns[i]? = some k ∧ v = .int k t) :
    ∀ (k i : Nat) (s : Shared), n - i = k → i ≤ n → St i s → (∃ L : List Int, L.Nodup ∧ (∀ j, j ∈ L ↔ j ∈ ns.take i) ∧ SetR w s.heap S (fun j => decide (j ∈ ns.take i)) L.length) →
      (∀ s' c, Moved (S :: wr) G s s' → c ≤ ds.length → SetR w s'.heap S (fun j => decide (j ∈ ns)) c → R (.ok (.ret .none)) s') →
      codeAny (model P w) A (.builtin "set.update.loop" ⟨[.ref S, .ref I], []⟩) R s := by
  have hSw : S ∉ wr := fun h => hSf (W.sub _ h)
  have hsub : ∀ b ∈ wr, b ∈ S :: wr := fun b hb => List.mem_cons_of_mem _ hb
  have room : ∀ (L : List Int) (i : Nat), L.Nodup → (∀ j, j ∈ L ↔ j ∈ ns.take i) → L.length ≤ ds.length := fun L i nd h => nodup_sub_len nd fun x hx => sub x (List.mem_of_mem_take ((h x).mp hx))
  intro k
  induction k with
  | zero =>
    intro i s hk' hi hst ⟨L, nd, hL, hS⟩ hR
    have hin : i = n := by omega
    subst hin
    refine codeAny_builtin F.entry_set_update_loop ?_
    rw [Around.under_plainId F.plain_set_update_loop _]
    show wpAny _ A.in1 (pyNext (.ref I) >>= _) _ _ s
    refine wpAny_bind (W.done s _ _ hst fun s' hm => ?_)
    show wpAny _ A.in1 (ret Value.none) _ _ s'
    have lim := room L i nd hL
    have e : ns.take i = ns := List.take_of_length_le (by omega)
    rw [e] at hS
    exact wpAny_pure (hR s' _ (hm.mono hsub) lim (hS.at fun o e => hm.heap S o hSw e))
  | succ k ih =>
    intro i s hk' hi hst ⟨L, nd, hL, hS⟩ hR
    have hlt : i < n := by omega
    have lim := room L i nd hL
    refine codeAny_builtin F.entry_set_update_loop ?_
    rw [Around.under_plainId F.plain_set_update_loop _]
    show wpAny _ A.in1 (pyNext (.ref I) >>= _) _ _ s
    refine wpAny_bind (W.item i s _ _ hlt hst fun v s' hP hst' hm => ?_)
    obtain ⟨z, t, hz, rfl⟩ := hval i v hP
    have hS' : SetR w s'.heap S (fun j => decide (j ∈ ns.take i)) L.length := hS.at fun o e => hm.heap S o hSw e
    show wpAny _ A.in1 (holding [Value.int z t] (setAdd S (.int z t)) >>= _) _ _ s'
    refine wpAny_bind (wpAny_holding ?_)
    unfold setAdd
    refine wpAny_holding ?_
    refine wpAny_bind ((intKind P w).pyHash (k := z) (intKind_is _ _ _ _) ?_)
    refine setR_add_hashed (s := { s' with toks := s'.toks + 1 }) hS' (by omega) fun h' hsb hS2 => ?_
    have hS3 : SetR w h' S (fun j => decide (j ∈ ns.take (i + 1))) (if decide (z ∈ ns.take i) = true then L.length else L.length + 1) := hS2.congr fun j => by
      rw [List.take_add_one, hz]
      simp [List.mem_append]
    have hc3 : ∃ L' : List Int, L'.Nodup ∧ (∀ j, j ∈ L' ↔ j ∈ ns.take (i + 1)) ∧ SetR w h' S (fun j => decide (j ∈ ns.take (i + 1))) L'.length := by
      have em : ∀ j, j ∈ ns.take (i + 1) ↔ j ∈ ns.take i ∨ j = z := fun j => by rw [List.take_add_one, hz]; simp [List.mem_append]
      by_cases hm : z ∈ ns.take i
      · rw [if_pos (decide_eq_true hm)] at hS3
        refine ⟨L, nd, fun j => ?_, hS3⟩
        rw [hL j, em j]
        exact ⟨.inl, fun h => h.elim id fun e => e ▸ hm⟩
      · rw [if_neg (by simp [hm])] at hS3
        refine ⟨z :: L, List.nodup_cons.mpr ⟨fun h => hm ((hL z).mp h), nd⟩, fun j => ?_, hS3⟩
        rw [List.mem_cons, hL j, em j]
        exact Or.comm
    refine wpAny_pure ⟨plainId_quiet F.plain_set_update_loop _, ih (i + 1) _ (by omega) hlt (W.frame _ s' _ _ hst' (Nat.le_succ _) fun b hb o e => ?_) hc3 fun s'' c2 hm'' hc'' hS'' => ?_⟩
    · rw [hsb.2 b (fun h : b = S => hSf (by rw [← h]; exact hb))]; exact e
    · refine hR s'' c2 (Moved.trans W.gtrans ((hm.mono hsub).then_heap (Nat.le_succ _) fun b o hb e => ?_) hm'') hc'' hS''
      rw [hsb.2 b (fun h : b = S => hb (by rw [h]; exact List.mem_cons_self))]; exact e
theorem set_filledD {l : Addr} {arr : Array Value} {xs ds : List Int} {R : Value → Shared → Prop} (calm : A.handled = none) (lst : s.heap.IsList l arr) (num : IntsAre arr.toList xs) (sub : ∀ x ∈ xs, x ∈ ds) (few : ds.length + 1 < scanBound)
    (told : ∀ (h' : Heap) (tk c : Nat), SetR w h' s.heap.objs.size (fun j => decide (j ∈ xs)) c → c ≤ ds.length → (∀ b o, s.heap.get? b = some o → h'.get? b = some o) → R .none { s with heap := h', toks := tk }) :
    codeAny (model P w) A (.call (.builtin "set.__init__") ⟨[.ref s.heap.objs.size, .ref l], []⟩) (wants R E) { s with heap := s.heap.push (bare w) } := by
  have own : (s.heap.push (bare w)).get? s.heap.objs.size = some (bare w) := Heap.get?_push_size _ rfl
  have kind : Shared.TypeIs { s with heap := s.heap.push (bare w) } (.ref s.heap.objs.size) "set" := ⟨_, own, rfl⟩
  have many : arr.size = xs.length := by rw [← Array.length_toList, IntsAre.length num]
  refine codeAny_call_builtin F.called_set.init.plain F.entry_set_init (check_set_init_1 kind ?_)
  obtain ⟨⟨cl, od, dat, sl⟩, at_l, is_l, nn, is_d⟩ := lst
  dsimp only at is_l is_d
  subst is_l is_d
  have below := Heap.lt_size at_l
  have at_l1 : (s.heap.push (bare w)).get? l = some ⟨.type "list", od, .seq arr nn, sl⟩ := Heap.get?_push_of_some _ at_l
  have lst1 : (s.heap.push (bare w)).IsList l arr := ⟨_, at_l1, rfl, nn, rfl⟩
  have no1 := F.sub_list_set
  have no2 := F.sub_list_frozenset
  have no3 : (Value.type "list" == Value.type "dict") = false := by decide
  unfold Builtin.«set.__init__» noKeywords Builtin.Frozenset.updateFrom
  generalize walker : pyIter = PI
  wp_walk
  subst walker
  refine wpAny_pyIter_list lst1 (wpAny_bind (wpAny_runValue ?_))
  have size1 : (s.heap.push (bare w)).objs.size = s.heap.objs.size + 1 := Heap.size_push ..
  have ne1 : l ≠ (s.heap.push (bare w)).objs.size := size1 ▸ Nat.ne_of_lt (Nat.lt_succ_of_lt below)
  have calm3 : A.in1.in1.handled = none := by simp [calm]
  have out : s.heap.objs.size ∉ [(s.heap.push (bare w)).objs.size, l] := by
    intro hm
    rcases List.mem_cons.mp hm with e | hm
    · rw [size1] at e
      exact Nat.ne_of_lt (Nat.lt_succ_self _) e
    · exact Nat.ne_of_lt below (List.mem_singleton.mp hm).symm
  have each : ∀ (i : Nat) (v : Value), arr[i]? = some v → ∃ k t, xs[i]? = some k ∧ v = .int k t := by
    intro i v hv
    have hi : i < xs.length := many ▸ (Array.getElem?_eq_some_iff.mp hv).1
    obtain ⟨t, e⟩ := PyProof.Rows.IntsAre.int_at num i v ((Array.getElem?_toList ..).trans hv)
    refine ⟨xs[i], t, List.getElem?_eq_getElem hi, ?_⟩
    rw [e, List.getD_eq_getElem?_getD, List.getElem?_eq_getElem hi]
    rfl
  refine set_update_few ((Walks.list calm3 _ l ne1 arr).toS) s.heap.objs.size out xs ds many sub few each (arr.size - 0) 0 _ (by omega) (Nat.zero_le _) ⟨⟨_, Heap.get?_push_size _ rfl, rfl, rfl⟩, lst1.push _⟩ ⟨[], List.nodup_nil, fun j => by simp, setR_new_at (Heap.get?_push_of_some _ own)⟩ ?_
  rintro ⟨h', g', d', tk', os'⟩ c moved bound full
  obtain rfl : g' = s.gens := moved.gens
  obtain rfl : d' = s.drawn := moved.drawn
  obtain rfl : os' = s.os := moved.os
  show wpAny _ _ _ _ _ _
  refine wpAny_pure ?_
  show wpAny _ _ (ret Value.none) _ _ _
  refine wpAny_pure (told h' tk' c full bound fun b o e => ?_)
  have low := Heap.lt_size e
  refine moved.heap b o ?_ (Heap.get?_push_of_some _ (Heap.get?_push_of_some _ e))
  intro hm
  rcases List.mem_cons.mp hm with z | hm
  · exact Nat.ne_of_lt low z
  · have z := List.mem_singleton.mp hm
    rw [size1] at z
    exact Nat.ne_of_lt (Nat.lt_succ_of_lt low) z
theorem call_set_few {l : Addr} {arr : Array Value} {xs ds : List Int} {Q : Value → Shared → Prop} (calm : A.handled = none) (lst : s.heap.IsList l arr) (num : IntsAre arr.toList xs) (sub : ∀ x ∈ xs, x ∈ ds) (few : ds.length + 1 < scanBound)
    (then_ : ∀ (h' : Heap) (tk c : Nat), SetR w h' s.heap.objs.size (fun j => decide (j ∈ xs)) c → c ≤ ds.length → (∀ b o, s.heap.get? b = some o → h'.get? b = some o) → Q (.ref s.heap.objs.size) { s with heap := h', toks := tk }) :
    wpAny (model P w) A (call (.type "set") [.ref l]) Q E s := by
  obtain ⟨_, _, order⟩ := F.called_set.mro
  have made := F.called_set.made
  have below := F.called_set.sub
  refine wpAny_call (codeAny_of_tree ?_)
  show wpAny _ _ (callAny (.type "set") ⟨[.ref l], []⟩) _ _ s
  refine wpAny_pure ⟨Code.quiet_builtin _ (by decide +kernel), codeAny_builtin F.entry_type_call ?_⟩
  rw [Around.under_plain (weight_type_call_type "set" [.ref l] []) rfl]
  have f1 := F.called_set.notType
  have f2 := F.called_set.canCreate
  have f3 := F.typeCall_set_1 (.ref l)
  repeat (any_goals (first | assumption | wp_step))
  refine codeAny_mono (code_set_led1 (.ref l) (E := E) (Q₁ := fun u t => u = .ref s.heap.objs.size ∧ t = { s with heap := s.heap.push (bare w) }) ⟨rfl, rfl⟩) fun r t first => ?_
  match r, first with
  | .error e, first => exact first
  | .ok .next, first => exact first.elim
  | .ok .brk, first => exact first.elim
  | .ok .cont, first => exact first.elim
  | .ok (.ret u), ⟨eu, et⟩ =>
    subst eu et
    have kind : Shared.TypeIs { s with heap := s.heap.push (bare w) } (.ref s.heap.objs.size) "set" := ⟨_, Heap.get?_push_size _ rfl, rfl⟩
    have f4 := F.called_set.init.lookup
    have f5 := F.called_set.init.bind (.ref s.heap.objs.size)
    repeat (any_goals (first | assumption | wp_step))
    refine codeAny_mono (set_filledD (A := _) (E := E) (R := fun v t => v = .none ∧ ∃ h' tk c, t = { s with heap := h', toks := tk } ∧ SetR w h' s.heap.objs.size (fun j => decide (j ∈ xs)) c ∧ c ≤ ds.length ∧ (∀ b o, s.heap.get? b = some o → h'.get? b = some o)) (by simp [calm]) lst num sub few fun h' tk c a b k => ⟨rfl, h', tk, c, rfl, a, b, k⟩) fun r t second => ?_
    match r, second with
    | .error e, second => exact second
    | .ok .next, second => exact second.elim
    | .ok .brk, second => exact second.elim
    | .ok .cont, second => exact second.elim
    | .ok (.ret v), ⟨ev, h', tk, c, et, a, b, k⟩ =>
      subst ev et
      repeat (any_goals (first | assumption | wp_step))
      exact then_ _ _ _ a b k
end
/-- set(xs), of few numbers -/
def rSetFew (K : PySem.W.Frag) (w : World) : List V → Hp → VK → Prop := fun vs H Q => ∃ (l : Addr) (xs ds : List Int), vs = [.ref l] ∧ SqL K H l (xs.map V.int) ∧ (∀ x ∈ xs, x ∈ ds) ∧ ds.length ≤ 4000 ∧ ∀ p c, H p = none → c ≤ ds.length → Q (.ref p) (upd H p (SetO w p (fun j => decide (j ∈ xs)) c))
theorem cr_setFew {X : Cx} (hc : X.calm = true) : CallR X (.type "set") (rSetFew X.K X.w) := by
  intro pins s σ H vs us Q I r h
  obtain ⟨l, xs, ds, rfl, seq, sub, few, q⟩ := h
  obtain rfl := Vals.ref1 r
  obtain ⟨its, rv, pl, _⟩ := I.list seq
  have num : IntsAre its xs := intsAre_of rv
  refine call_set_few (I.ok.hd hc) pl.isList (by simpa using num) sub (by unfold scanBound; omega) fun h' tk c full bound k => ?_
  exact ⟨.ref _, _, I.laid (t' := tk) k (Nat.le_refl _) (setO_new full), rfl, q _ c (I.hok.fresh (Nat.le_refl _)) bound⟩
end V0
/-! sorted(a set of ints), of any number of them -/
namespace V0
open PySem PySem.Spec PyProof.Rows L2
section
variable {P : Program} {w : World} {A : Around} {E : Value → Shared → Prop} {s : Shared} {a : Addr}
theorem sorted_setW {S : Int → Bool} {n : Nat} {Q : Value → Shared → Prop} (R : SetR w s.heap a S n) (hh : A.handled = none)
    (hQ : ∀ s' p (out : Array Value) (c : Nat) (ns : List Int), (∀ b o, s.heap.get? b = some o → s'.heap.get? b = some o) → s'.gens = s.gens → s'.os = s.os → s.heap.objs.size ≤ p →
      s'.heap.get? p = some (seqObj "list" out c) → IntsAre out.toList ns → ns.Pairwise (· < ·) → (∀ k, k ∈ ns ↔ S k = true) → ns.length = n → n ≤ sizeLine → Q (.ref p) s') :
    wpAny (model P w) A (call (.builtin "sorted") [.ref a]) Q E s := by
  obtain ⟨o, es, ep, t, ho, hex, hd, g, nd, hm, hb, hf, hn, hr, hl⟩ := R
  have hz : n ≤ sizeLine := by rw [← hn]; exact fits_of_scanBound hb
  refine Calls.call_function_entry kind_sorted plain_sorted entry_sorted (args_sorted1 _) ?_
  unfold Builtin.«sorted»
  refine wpAny_bind (m := checkCount "sorted" 1 1 _) (wpAny_pure ?_)
  refine wpAny_bind (collect_set (A := A.in1) hh ⟨o, ho, hex.1, hd⟩ hf hb hr hl fun s1 vs k1 hz1 g1 o1 pm => ?_)
  have hvl : vs.length = n := by rw [pm.length_eq, List.length_map, Array.length_toList]; exact hn
  have hI : IntsAre vs (vs.map Builtin.Re.reRawOf) := ints_of vs fun v hv => by
    obtain ⟨e, he, q⟩ := List.mem_map.mp (pm.mem_iff.mp hv)
    obtain ⟨k, tk, h1, _⟩ := g e he
    exact ⟨k, tk, by rw [← q]; exact h1⟩
  have pk : (vs.map Builtin.Re.reRawOf).Perm (es.toList.map keyOf) := by
    have q := pm.map Builtin.Re.reRawOf
    rw [List.map_map] at q
    exact q
  refine wpAny_bind (wpAny_newList ?_ (by rw [hvl]; exact hz))
  have hoL : (s1.heap.push (seqObj "list" vs.toArray 0)).get? s1.heap.objs.size = some (seqObj "list" vs.toArray 0) := Heap.get?_push_size _ rfl
  refine wpAny_bind (wpAny_holding (wpAny_call_entry slot_list_sort ⟨_, hoL, rfl⟩ entry_list_sort (SrtO.list_sort_ord SrtO.swo_int hoL (by rw [hvl]; exact hz) (fun h2 => SrtO.ints_sortable hI h2) fun out h1 h2 => ⟨_, rfl, ?_⟩) (args_list_sort _)))
  obtain ⟨k1', a2, a1⟩ := SrtO.ints_out hI h1 h2
  obtain ⟨c, hc⟩ := sortedHeap_at (vs := vs) (out := out.toArray) hoL
  have pn : (out.map SrtO.iv).Perm (es.toList.map keyOf) := a2.trans pk
  refine wpAny_pure ⟨_, rfl, hQ _ s1.heap.objs.size out.toArray c (out.map SrtO.iv) (fun b u e => ?_) g1 o1 hz1 hc k1' (lt_of_le_nodup _ a1 (pn.nodup_iff.mpr nd)) (fun k => by rw [pn.mem_iff, ← hm k]) ?_ hz⟩
  · have q := k1 b u e
    have hlt := Heap.lt_size q
    show (sortedHeap (s1.heap.push (seqObj "list" vs.toArray 0)) s1.heap.objs.size vs out.toArray).get? b = some u
    rw [sortedHeap_old (Nat.ne_of_lt hlt) (by rw [size_push']; exact Nat.lt_succ_of_lt hlt)]
    exact Heap.get?_push_of_some _ q
  · rw [pn.length_eq, List.length_map, Array.length_toList]; exact hn
end
/-- sorted(found), any number of members -/
def rSortedSetW (w : World) : List V → Hp → VK → Prop := fun vs H Q => ∃ (a : Addr) (S : Int → Bool) (n : Nat), vs = [V.ref a] ∧ H a = some (SetO w a S n) ∧
  ∀ (ns : List Int) (p : Addr), ns.Pairwise (· < ·) → (∀ k : Int, k ∈ ns ↔ S k = true) → ns.length = n → H p = none → Q (.ref p) (upd H p (.lst (ns.map V.int)))
section
variable {X : Cx}
theorem cr_sortedSetW (hc : X.calm = true) : CallR X (.builtin "sorted") (rSortedSetW X.w) := by
  intro pins s σ H vs us Q I r h
  obtain ⟨a, S, n, rfl, ha, q⟩ := h
  have R := setO_get I ha
  rw [Vals.ref1 r]
  refine sorted_setW R (I.ok.hd hc) fun s' p out c ns k g o hp hg hi hs hm hl hz => ?_
  have hlen : (ns.map V.int).length ≤ sizeLine := by rw [List.length_map, hl]; exact hz
  have hn : H p = none := I.hok.fresh hp
  have J : Inv X pins σ (upd H p (.lst (ns.map V.int))) { s with heap := s'.heap, gens := s'.gens, drawn := s'.drawn, toks := s'.toks } :=
    I.call (ch := []) (Un.laid k hp hn) (I.hok.laid k hp ⟨hlen, out.toList, c, vals_of_ints hi, hg⟩) (by rw [g]; exact I.bare) (fun _ z => nomatch z)
  have e : s' = { s with heap := s'.heap, gens := s'.gens, drawn := s'.drawn, toks := s'.toks } := by
    cases s'
    cases s
    cases o
    rfl
  rw [e]
  exact ⟨.ref p, _, J, rfl, q ns p hs hm hl hn⟩
end
end V0
/-! cuts of nets, bits of tables -/
namespace V0
open PySem PySem.Spec PyProof.Rows L2
open PySem.W (Datum)
/-! ### numbers by their bits -/
def num : List Nat → Nat
  | [] => 0
  | b :: r => b + 2 * num r
theorem num_append (xs ys : List Nat) : num (xs ++ ys) = num xs + 2 ^ xs.length * num ys := by
  induction xs with
  | nil => simp [num]
  | cons b r ih =>
    show b + 2 * num (r ++ ys) = b + 2 * num r + 2 ^ (r.length + 1) * num ys
    rw [ih, Nat.pow_succ, Nat.mul_add, Nat.mul_comm (2 ^ r.length) 2, Nat.mul_assoc, Nat.add_assoc]
theorem num_snoc (xs : List Nat) (b : Nat) : num (xs ++ [b]) = num xs + b * 2 ^ xs.length := by
  rw [num_append]
  show num xs + 2 ^ xs.length * (b + 2 * 0) = _
  rw [Nat.mul_zero, Nat.add_zero, Nat.mul_comm]
theorem num_lt {xs : List Nat} (h : ∀ b ∈ xs, b < 2) : num xs < 2 ^ xs.length := by
  induction xs with
  | nil => decide
  | cons b r ih =>
    have h1 := h b List.mem_cons_self
    have h2 := ih fun c hc => h c (List.mem_cons_of_mem _ hc)
    show b + 2 * num r < 2 ^ (r.length + 1)
    rw [Nat.pow_succ]
    omega
theorem num_testBit {xs : List Nat} (h : ∀ b ∈ xs, b < 2) (i : Nat) : (num xs).testBit i = decide (xs[i]? = some 1) := by
  induction xs generalizing i with
  | nil => simp [num]
  | cons b r ih =>
    have h1 := h b List.mem_cons_self
    have hb : b = 0 ∨ b = 1 := by omega
    have h2 := fun j => ih (fun c hc => h c (List.mem_cons_of_mem _ hc)) j
    cases i with
    | zero =>
      show (b + 2 * num r).testBit 0 = decide (some b = some 1)
      rw [Nat.testBit_zero]
      rcases hb with rfl | rfl
      · have : (0 + 2 * num r) % 2 = 0 := by omega
        rw [this]
        rfl
      · have : (1 + 2 * num r) % 2 = 1 := by omega
        rw [this]
        rfl
    | succ j =>
      show (b + 2 * num r).testBit (j + 1) = decide (r[j]? = some 1)
      rw [Nat.testBit_succ, ← h2 j]
      congr 1
      omega
/-- the columns of bits f 0, f 1, .. -/
def colN (m : Nat) (f : Nat → Nat) : Nat := num ((List.range m).map f)
theorem col_succ (m : Nat) (f : Nat → Nat) : colN (m + 1) f = colN m f + f m * 2 ^ m := by
  unfold colN
  rw [map_range_succ, num_snoc, List.length_map, List.length_range]
theorem col_lt (m : Nat) (f : Nat → Nat) (h : ∀ i, i < m → f i < 2) : colN m f < 2 ^ m := by
  have := num_lt (xs := (List.range m).map f) fun b hb => by
    obtain ⟨i, hi, rfl⟩ := List.mem_map.mp hb
    exact h i (List.mem_range.mp hi)
  rw [List.length_map, List.length_range] at this
  exact this
theorem col_testBit {m : Nat} {f : Nat → Nat} (h : ∀ i, i < m → f i < 2) (i : Nat) : (colN m f).testBit i = (decide (i < m) && decide (f i = 1)) := by
  unfold colN
  rw [num_testBit]
  · by_cases hi : i < m
    · rw [List.getElem?_map, List.getElem?_range hi, decide_eq_true hi, Bool.true_and]
      show decide (some (f i) = some 1) = _
      exact decide_eq_decide.mpr ⟨fun e => Option.some.inj e, fun e => by rw [e]⟩
    · rw [List.getElem?_eq_none (by rw [List.length_map, List.length_range]; omega), decide_eq_false hi]
      rfl
  · intro b hb
    obtain ⟨i, hi, rfl⟩ := List.mem_map.mp hb
    exact h i (List.mem_range.mp hi)
theorem col_and {m : Nat} {f g : Nat → Nat} (hf : ∀ i, i < m → f i < 2) (hg : ∀ i, i < m → g i < 2) : colN m f &&& colN m g = colN m (fun i => f i * g i) := by
  apply Nat.eq_of_testBit_eq
  intro i
  rw [Nat.testBit_and, col_testBit hf, col_testBit hg, col_testBit (fun i hi => mul_lt2 (hf i hi) (hg i hi))]
  by_cases hi : i < m
  · rw [decide_eq_true hi, Bool.true_and, Bool.true_and, Bool.true_and]
    have h1 := hf i hi
    have h2 := hg i hi
    have e1 : f i = 0 ∨ f i = 1 := by omega
    have e2 : g i = 0 ∨ g i = 1 := by omega
    rcases e1 with e1 | e1 <;> rcases e2 with e2 | e2 <;> rw [e1, e2] <;> decide
  · rw [decide_eq_false hi]
    rfl
theorem col_xor {m : Nat} {f : Nat → Nat} (hf : ∀ i, i < m → f i < 2) (l : Nat) : colN m f ^^^ (if l % 2 = 1 then 2 ^ m - 1 else 0) = colN m (fun i => f i ^^^ (l % 2)) := by
  have hx : ∀ i, i < m → f i ^^^ (l % 2) < 2 := fun i hi => Nat.xor_lt_two_pow (n := 1) (hf i hi) (Nat.mod_lt _ (by decide))
  apply Nat.eq_of_testBit_eq
  intro i
  rw [Nat.testBit_xor, col_testBit hf, col_testBit hx]
  rcases Nat.mod_two_eq_zero_or_one l with e | e
  · rw [if_neg (by omega), e, Nat.zero_testBit, Bool.xor_false]
    simp
  · rw [if_pos e, e, Nat.testBit_two_pow_sub_one]
    by_cases hi : i < m
    · rw [decide_eq_true hi, Bool.true_and, Bool.true_and]
      have h1 := hf i hi
      have e1 : f i = 0 ∨ f i = 1 := by omega
      rcases e1 with e1 | e1 <;> rw [e1] <;> decide
    · rw [decide_eq_false hi]
      rfl
/-- the sum of the powers whose bit is set -/
theorem sum_pows (m : Nat) (f : Nat → Nat) (h : ∀ i, i < m → f i < 2) : (((List.range m).filter fun i => decide (f i = 1)).map fun i => 2 ^ i).sum = colN m f := by
  induction m with
  | zero => rfl
  | succ m ih =>
    rw [List.range_succ, List.filter_append, List.map_append, List.sum_append, ih fun i hi => h i (by omega), col_succ]
    have h1 := h m (by omega)
    have e1 : f m = 0 ∨ f m = 1 := by omega
    rcases e1 with e1 | e1
    · simp [e1]
    · simp [e1]
/-! ### cuts -/
inductive Sep (n : Net) (cut : List Nat) : Nat → Prop
  | hit {x : Nat} : x ∈ cut → Sep n cut x
  | gate {x : Nat} {g : Nat × Nat} : n.base ≤ x → n.gates[x - n.base]? = some g → Sep n cut (g.1 / 2) → Sep n cut (g.2 / 2) → Sep n cut x
def kids (n : Net) (x : Nat) : List Nat := if x < n.base then [] else match n.gates[x - n.base]? with
  | some g => [g.1 / 2, g.2 / 2]
  | none => []
theorem Sep.expand {n : Net} {cut other : List Nat} {node : Nat} (hn : kids n node ≠ []) (hk : ∀ y ∈ kids n node, y ∈ other) (ho : ∀ y ∈ cut, y ≠ node → y ∈ other) {x : Nat} (h : Sep n cut x) : Sep n other x := by
  induction h with
  | @hit x hx =>
    by_cases e : x = node
    · subst e
      unfold kids at hn hk
      by_cases hb : x < n.base
      · rw [if_pos hb] at hn
        exact absurd rfl hn
      · rw [if_neg hb] at hn hk
        cases eg : n.gates[x - n.base]? with
        | none =>
          rw [eg] at hn
          exact absurd rfl hn
        | some g =>
          rw [eg] at hk
          exact .gate (by omega) eg (.hit (hk _ (by simp))) (.hit (hk _ (by simp)))
    · exact .hit (ho x hx e)
  | gate hb hg _ _ i1 i2 => exact .gate hb hg i1 i2
theorem Sep.mono {n : Net} {cut other : List Nat} (ho : ∀ y ∈ cut, y ∈ other) {x : Nat} (h : Sep n cut x) : Sep n other x := by
  induction h with
  | hit hx => exact .hit (ho _ hx)
  | gate hb hg _ _ i1 i2 => exact .gate hb hg i1 i2
theorem Sep.some {n : Net} {cut : List Nat} {x : Nat} (h : Sep n cut x) : cut ≠ [] := by
  induction h with
  | hit hx => exact List.ne_nil_of_mem hx
  | gate _ _ _ _ i1 _ => exact i1
/-- a net as the law draws it -/
structure TOk (n : Net) : Prop where
  i1 : 1 ≤ n.ins
  i4 : n.ins ≤ 4
  fl : n.starts.length ≤ 2
  gl : n.gates.length ≤ 9
  g : ∀ j g, n.gates[j]? = some g → (2 ≤ g.1 ∧ g.1 < 2 * (n.base + j)) ∧ (2 ≤ g.2 ∧ g.2 < 2 * (n.base + j)) ∧ g.1 / 2 ≠ g.2 / 2
theorem TOk.kid {n : Net} (t : TOk n) {x y : Nat} (h : y ∈ kids n x) : 1 ≤ y ∧ y < x ∧ n.base ≤ x := by
  unfold kids at h
  by_cases hb : x < n.base
  · rw [if_pos hb] at h
    cases h
  · rw [if_neg hb] at h
    cases eg : n.gates[x - n.base]? with
    | none =>
      rw [eg] at h
      cases h
    | some g =>
      rw [eg] at h
      have := t.g _ _ eg
      simp only [List.mem_cons, List.not_mem_nil, or_false] at h
      rcases h with rfl | rfl <;> omega
structure IsCut (n : Net) (gate : Nat) (cut : List Nat) (k : Nat) : Prop where
  len : cut.length ≤ k
  asc : cut.Pairwise (· < ·)
  bnd : ∀ x ∈ cut, 0 < x ∧ x < gate
  sep : ∀ y ∈ kids n gate, Sep n cut y
theorem kids_gate {n : Net} {x : Nat} (h1 : n.base ≤ x) (h2 : x < n.many) : ∃ g, n.gates[x - n.base]? = some g ∧ kids n x = [g.1 / 2, g.2 / 2] := by
  have hj : x - n.base < n.gates.length := by
    unfold Net.many at h2
    omega
  refine ⟨_, List.getElem?_eq_getElem hj, ?_⟩
  unfold kids
  rw [if_neg (by omega), List.getElem?_eq_getElem hj]
theorem IsCut.some {n : Net} {gate k : Nat} {cut : List Nat} (c : IsCut n gate cut k) (h1 : n.base ≤ gate) (h2 : gate < n.many) : cut ≠ [] := by
  obtain ⟨g, _, e⟩ := kids_gate h1 h2
  exact (c.sep (g.1 / 2) (by rw [e]; simp)).some
theorem Sep.gate_of {n : Net} {cut : List Nat} {x : Nat} (h : Sep n cut x) (hx : x ∉ cut) : n.base ≤ x ∧ x < n.many ∧ ∀ y ∈ kids n x, Sep n cut y := by
  cases h with
  | hit h => exact absurd h hx
  | @gate _ g hb hg h1 h2 =>
    have hj := (List.getElem?_eq_some_iff.mp hg).1
    refine ⟨hb, by unfold Net.many; omega, fun y hy => ?_⟩
    unfold kids at hy
    rw [if_neg (by omega), hg] at hy
    simp only [List.mem_cons, List.not_mem_nil, or_false] at hy
    rcases hy with rfl | rfl
    · exact h1
    · exact h2
theorem kids_len (n : Net) (x : Nat) : (kids n x).length ≤ 2 := by
  unfold kids
  split
  · decide
  · split <;> simp
theorem nodup_bound : ∀ {m : Nat} {xs : List Nat}, xs.Nodup → (∀ x ∈ xs, x < m) → xs.length ≤ m
  | 0, xs, _, b => by
    cases xs with
    | nil => exact Nat.le_refl _
    | cons x r => exact absurd (b x List.mem_cons_self) (Nat.not_lt_zero _)
  | m + 1, xs, h, b => by
    have ih := nodup_bound (m := m) (xs := xs.erase m) (h.erase m) fun x hx => by
      have h1 := (h.mem_erase_iff).mp hx
      have h2 := b x h1.2
      have h3 := h1.1
      omega
    rw [List.length_erase] at ih
    split at ih <;> omega
theorem many16 {n : Net} (ok : TOk n) : n.many ≤ 16 := by
  have := ok.i4
  have := ok.fl
  have := ok.gl
  unfold Net.many Net.base
  omega
/-! ### bits of gates -/
def gbit (n : Net) (kn : Nat → Option Nat) (x : Nat) : Nat := match kn x with
  | some b => b
  | none => match n.gates[x - n.base]? with
    | none => 0
    | some g => if h : g.1 / 2 < x ∧ g.2 / 2 < x then (gbit n kn (g.1 / 2) ^^^ (g.1 % 2)) * (gbit n kn (g.2 / 2) ^^^ (g.2 % 2)) else 0
termination_by x
decreasing_by
  · exact h.1
  · exact h.2
theorem gbit_hit {n : Net} {kn : Nat → Option Nat} {x b : Nat} (h : kn x = some b) : gbit n kn x = b := by
  rw [gbit, h]
theorem gbit_gate {n : Net} {kn : Nat → Option Nat} {x : Nat} {g : Nat × Nat} (h : kn x = none) (hg : n.gates[x - n.base]? = some g) (h1 : g.1 / 2 < x) (h2 : g.2 / 2 < x) :
    gbit n kn x = (gbit n kn (g.1 / 2) ^^^ (g.1 % 2)) * (gbit n kn (g.2 / 2) ^^^ (g.2 % 2)) := by
  rw [gbit, h]
  simp only [hg]
  rw [dif_pos ⟨h1, h2⟩]
theorem gbit_lt {n : Net} {kn : Nat → Option Nat} (hk : ∀ x b, kn x = some b → b < 2) (x : Nat) : gbit n kn x < 2 := by
  induction x using Nat.strongRecOn with
  | ind x ih =>
    rw [gbit]
    cases e : kn x with
    | some b => exact hk x b e
    | none =>
      simp only
      cases eg : n.gates[x - n.base]? with
      | none =>
        show 0 < 2
        decide
      | some g =>
        simp only
        split
        · rename_i h
          exact mul_lt2 (Nat.xor_lt_two_pow (n := 1) (ih _ h.1) (Nat.mod_lt _ (by decide))) (Nat.xor_lt_two_pow (n := 1) (ih _ h.2) (Nat.mod_lt _ (by decide)))
        · decide
/-- what is known of the m-th choice of values of a cut -/
def kn (cut : List Nat) (m x : Nat) : Option Nat := if x ∈ cut then some (m / 2 ^ (cut.idxOf x) % 2) else none
theorem kn_lt (cut : List Nat) (m : Nat) : ∀ x b, kn cut m x = some b → b < 2 := by
  intro x b h
  unfold kn at h
  split at h
  · cases h
    exact Nat.mod_lt _ (by decide)
  · cases h
def colOf (n : Net) (cut : List Nat) (x : Nat) : Nat := colN (2 ^ cut.length) fun m => gbit n (kn cut m) x
theorem colOf_hit {n : Net} {cut : List Nat} {x : Nat} (h : x ∈ cut) : colOf n cut x = colN (2 ^ cut.length) fun m => m / 2 ^ (cut.idxOf x) % 2 := by
  unfold colOf
  congr 1
  funext m
  exact gbit_hit (if_pos h)
theorem colOf_gate {n : Net} {cut : List Nat} {x : Nat} {g : Nat × Nat} (h : x ∉ cut) (hg : n.gates[x - n.base]? = some g) (h1 : g.1 / 2 < x) (h2 : g.2 / 2 < x) :
    colOf n cut x = (colOf n cut (g.1 / 2) ^^^ (if g.1 % 2 = 1 then 2 ^ 2 ^ cut.length - 1 else 0)) &&& (colOf n cut (g.2 / 2) ^^^ (if g.2 % 2 = 1 then 2 ^ 2 ^ cut.length - 1 else 0)) := by
  have hx : ∀ (y l : Nat), ∀ i, i < 2 ^ cut.length → gbit n (kn cut i) y ^^^ (l % 2) < 2 := fun y l i _ => Nat.xor_lt_two_pow (n := 1) (gbit_lt (kn_lt cut i) y) (Nat.mod_lt _ (by decide))
  unfold colOf
  rw [col_xor fun i _ => gbit_lt (kn_lt cut i) _, col_xor fun i _ => gbit_lt (kn_lt cut i) _, col_and (hx _ _) (hx _ _)]
  congr 1
  funext m
  exact gbit_gate (if_neg h) hg h1 h2
/-! ### what stands above a cut -/
structure MK (n : Net) (gate : Nat) (cut ks : List Nat) : Prop where
  nd : ks.Nodup
  g : gate ∈ ks
  b : ∀ x ∈ ks, n.base ≤ x ∧ x ≤ gate ∧ x ∉ cut ∧ ∀ y ∈ kids n x, Sep n cut y
structure Above (n : Net) (gate : Nat) (cut ab : List Nat) : Prop where
  asc : ab.Pairwise (· < ·)
  g : gate ∈ ab
  b : ∀ x ∈ ab, n.base ≤ x ∧ x ≤ gate ∧ x ∉ cut
  k : ∀ x ∈ ab, ∀ y ∈ kids n x, y ∈ cut ∨ y ∈ ab
theorem band (a b : Nat) : Builtin.bitAnd (a : Int) (b : Int) = ((a &&& b : Nat) : Int) := by
  rw [bitAnd_pp (Int.natCast_nonneg _) (Int.natCast_nonneg _), Int.toNat_natCast, Int.toNat_natCast]
theorem band_one (a : Nat) : Builtin.bitAnd (a : Int) 1 = ((a % 2 : Nat) : Int) := by
  have h := PySem.W.kbt_mask ((a : Nat) : Int) 1
  rw [show (2 : Int) ^ 1 - 1 = 1 by decide, show (2 : Int) ^ 1 = 2 by decide] at h
  rw [h]
  rfl
theorem shl_nat (a k : Nat) : (a : Int) * 2 ^ ((k : Int)).toNat = ((a * 2 ^ k : Nat) : Int) := by
  rw [Int.toNat_natCast, Int.natCast_mul, Int.natCast_pow]
  rfl
theorem shl_one (k : Nat) : (1 : Int) * 2 ^ ((k : Int)).toNat = ((2 ^ k : Nat) : Int) := by
  rw [Int.one_mul, Int.toNat_natCast, Int.natCast_pow]
  rfl
theorem shr_nat (a k : Nat) : (a : Int) / 2 ^ ((k : Int)).toNat = ((a / 2 ^ k : Nat) : Int) := by
  rw [Int.toNat_natCast, Int.natCast_ediv, Int.natCast_pow]
  rfl
theorem shr_one (a : Nat) : (a : Int) / 2 ^ ((1 : Int)).toNat = ((a / 2 : Nat) : Int) := rfl
end V0
/-! xs[i] op= e; more operators in place; comprehensions of two clauses by an invariant -/
namespace V0
open PySem PySem.Spec PyProof.Rows L2
theorem pg_ixL {X : Cx} : PGet X (rIxL X.K) := by
  intro pins s σ H x y v u Q I rx ry h
  obtain ⟨p, xs, i, z, rfl, rfl, hq, he, q⟩ := h
  cases rx
  obtain ⟨t, rfl⟩ := ry
  obtain ⟨its, r, pl, hz⟩ := I.list hq
  obtain ⟨j, h1, h2, h3, h4, h5⟩ := atI_get he
  obtain ⟨w, ew, rw'⟩ := r.get h2
  have hl := r.length
  have hn := line63
  have fin : EP X pins σ Q w s := ⟨z, H, I, rw', q⟩
  by_cases h0 : 0 ≤ i
  · have hj : i.toNat = j := by
      rw [seqIndex_of h0 h5] at h1
      exact Option.some.inj h1
    exact wpAny_getItem_list pl.isList h0 (by omega) (by rw [hj]; simpa using ew) fin
  · have hj : (i + (its.toArray.size : Int)).toNat = j := by
      rw [seqIndex_neg (by omega) h4] at h1
      rw [List.size_toArray, ← hl]
      exact Option.some.inj h1
    exact wpAny_getItem_list_neg pl.isList (by omega) (by rw [List.size_toArray] <;> omega) (by omega) (by rw [hj]; simpa using ew) fin
theorem ip_or {X : Cx} : PIp X .BitOr (ipI fun i j => Builtin.bitOr i j) := by
  intro pins s σ H x y v u Q I r1 r2 h
  obtain ⟨i, j, e1, e2, q⟩ := h
  subst e1; subst e2
  obtain ⟨t, rfl⟩ := r1
  obtain ⟨t', rfl⟩ := r2
  exact ior_int ⟨.int _, H, I.tok _, ⟨_, rfl⟩, q⟩
/-- a star in a display, K told -/
theorem pa_starK {X : Cx} {K : PySem.W.Frag} {e : Expr} {es : List Expr} {te : TE} {t : TA} {p : Pos} (hK : X.K = K) (he : PE X e te) (hr : PA X es t) (hs : starEach (.Starred e p :: es) X.env = (true, eval e X.env) :: starEach es X.env := by rfl) : PA X (.Starred e p :: es) (StX.tStar K te t) := by
  subst hK
  exact StX.pa_star he hr hs
/-- a if t else b: what both ways give -/
theorem ifx {b : Bool} {A B : VK → Prop} {Q : VK} (R : V → Hp → Prop) (hA : b = true → ∀ Q : VK, (∀ y H', R y H' → Q y H') → A Q) (hB : b = false → ∀ Q : VK, (∀ y H', R y H' → Q y H') → B Q) (fin : ∀ y H', R y H' → Q y H') : if b = true then A Q else B Q := by
  cases b with
  | true => exact iteT (hA rfl Q fin)
  | false => exact iteF (hB rfl Q fin)
/-- a walked thing's number of turns, and what each turn gives -/
structure Wk (J : It) (n : Nat) (Y : Nat → Hp → V → Hp → Prop) (S : Nat → Hp → Prop) : Prop where
  stop : ∀ H, S n H → J.stop n H
  go : ∀ i H, i < n → S i H → J.go i H
  yld : ∀ i H x H', i < n → S i H → J.yld i H x H' → Y i H x H'
theorem wk_range {lo : Int} {n : Nat} : Wk (Itr lo n) n (fun i H x H' => x = .int (lo + i) ∧ H' = H) (fun _ _ => True) := by
  refine ⟨fun H _ => Nat.le_refl _, fun i H h _ => h, fun i H x H' _ _ y => ?_⟩
  obtain ⟨e, y⟩ := y
  exact ⟨y, e⟩
theorem wk_list {K : PySem.W.Frag} {a : Addr} {xs : List V} : Wk (Itl K a) xs.length (fun i H x H' => xs[i]? = some x ∧ H' = H) (fun _ H => SqL K H a xs) := by
  refine ⟨fun H h => ⟨xs, h, Nat.le_refl _⟩, fun i H h s => ⟨xs, xs[i], s, by simp [h]⟩, fun i H x H' _ s y => ?_⟩
  obtain ⟨e, y⟩ := y
  subst e
  exact ⟨y xs s, rfl⟩
theorem wk_tup {K : PySem.W.Frag} {a : Addr} {xs : List V} : Wk (Itt K a) xs.length (fun i H x H' => xs[i]? = some x ∧ H' = H) (fun _ H => SqT K H a xs) := by
  refine ⟨fun H h => ⟨xs, h, Nat.le_refl _⟩, fun i H h s => ⟨xs, xs[i], s, by simp [h]⟩, fun i H x H' _ s y => ?_⟩
  obtain ⟨e, y⟩ := y
  subst e
  exact ⟨y xs s, rfl⟩
/-- the outer clause of a comprehension of two, and its inner one -/
theorem lc2_out {J : It} {n : Nat} {Y : Nat → Hp → V → Hp → Prop} {S : Nat → Hp → Prop} {g : TG} {tt : TT} {inner : L2.St → Hp → (Hp → Prop) → Prop} {vs : List Nat} {σ : L2.St} {H1 : Hp} {Qd : Hp → Prop} (w : Wk J n Y S) (Pv : Nat → Hp → Prop) (h0 : Pv 0 H1) (hl : ∀ i H, i ≤ n → Pv i H → S i H)
    (hs : ∀ i H x H', i < n → Pv i H → Y i H x H' → g x (wipe σ vs) H' fun σ2 H2 => wipe σ2 vs = wipe σ vs ∧ tt σ2 H2 fun b H3 => if b = true then inner σ2 H3 (Pv (i + 1)) else Pv (i + 1) H3) (hd : ∀ H, Pv n H → Qd H) :
    ∃ W : Nat → Nat → Hp → Prop, (∃ m, W 0 m H1) ∧ ∀ i m H, W i m H →
      (J.stop i H ∧ Qd H) ∨ (J.go i H ∧ ∃ Nx : Hp → Prop, (∀ H', Nx H' → ∃ m', m' < m ∧ W (i + 1) m' H') ∧ ∀ x H', J.yld i H x H' → g x (wipe σ vs) H' fun σ2 H2 => wipe σ2 vs = wipe σ vs ∧ tt σ2 H2 fun b H3 =>
        if b = true then inner σ2 H3 Nx else Nx H3) := by
  refine ⟨fun i m H => m = n - i ∧ i ≤ n ∧ Pv i H, ⟨n, by simp, Nat.zero_le _, h0⟩, ?_⟩
  rintro i m H ⟨rfl, hi, p⟩
  by_cases hlt : i < n
  · refine .inr ⟨w.go i H hlt (hl i H hi p), Pv (i + 1), fun H' p' => ⟨n - (i + 1), by omega, rfl, hlt, p'⟩, fun x H' y => ?_⟩
    exact hs i H x H' hlt p (w.yld i H x H' hlt (hl i H hi p) y)
  · have e : i = n := by omega
    subst e
    exact .inl ⟨w.stop H (hl i H hi p), hd H p⟩
end V0
/-! loops over lists and tuples, and tuples taken apart, while an exception is handled -/
namespace V0
open PySem PySem.Spec PyProof.Rows L2 L2H HotX
section
variable {prog : Program} {w : World} {A : Around} {E : Value → Shared → Prop} {s : Shared}
/-- what an iterator leaves at its end, seen from elsewhere -/
def Off (it : Addr) (h h' : Heap) : Prop := ∀ b o, b ≠ it → h.get? b = some o → h'.get? b = some o
theorem listIter_end_hot {it l x1 : Addr} {i : Nat} {arr : Array Value} {Q : Option Value → Shared → Prop} (hot : HotAt A x1 s.heap) (at_ : s.heap.IsListIter it l i) (lst : s.heap.IsList l arr) (out : arr[i]? = none)
    (told : ∀ h', Off it s.heap h' → Q none { s with heap := h' }) : wpAny (model prog w) A (pyNext (.ref it)) Q E s := by
  obtain ⟨hnd, o1, vs1, g1, d1, c1⟩ := hot
  obtain ⟨oi, gi, ci, di⟩ := id at_
  obtain ⟨ol, gl, _, nl, dl⟩ := lst
  have apart : x1 ≠ it := fun e => by
    rw [e, gi] at g1
    cases g1
    rw [di] at d1
    cases d1
    simp at c1
  unfold pyNext
  refine wpAny_bind (wpAny_attempt (wpAny_callSpecial?_slot (name := Str.ofString "__next__") at_.typeIs slot_listiter_next (wpAny_call_entry slot_listiter_next at_.typeIs entry_listiter_next ?_ (args_listiter_next _))))
  show wpAny _ _ (field (.ref it) 0 >>= _) _ _ s
  refine wpAny_bind (wpAny_field gi di (x := Value.ref l) rfl ?_)
  show wpAny _ _ (if (Value.ref l == Value.none) = true then _ else _) _ _ s
  rw [if_neg (by exact Bool.false_ne_true)]
  show wpAny _ _ (field (.ref it) 1 >>= _) _ _ s
  refine wpAny_bind (wpAny_field gi di (x := Value.int i 0) rfl ?_)
  show wpAny _ _ (seqItems? (.ref l) >>= _) _ _ s
  refine wpAny_bind (wpAny_seqItems gl dl ?_)
  simp only [Int.toNat_natCast, out]
  refine wpAny_bind (wpAny_rule (wpAny_bind (wpAny_setField gi di (by simp) ?_)))
  show wpAny _ _ (newExc (.type "StopIteration") [] >>= _) _ _ _
  refine wpAny_bind ?_
  simp only [newExc, newTuple]
  refine wpAny_bind (wpAny_newObj_type ?_ (by size_fits))
  refine wpAny_bind (m := firstArgMember _ _) (wpAny_of_eq (a := Value.none) (by first | rfl | (simp only [firstArgMember]; rfl)) ?_)
  refine wpAny_newObj_type ?_ (by size_fits)
  have keep : ∀ {b : Addr} {o : Obj}, b ≠ it → s.heap.get? b = some o → (s.heap.update it (Obj.mapFields fun x => x.setIfInBounds 0 Value.none)).get? b = some o := fun hb e => (Heap.get?_update_other _ _ (Ne.symm hb)).trans e
  have two := Heap.get?_push_of_some { cls := .type "tuple", data := .seq #[] } (keep apart g1)
  refine raiseNew_hot ⟨hnd, o1, vs1, Heap.get?_push_of_some _ two, d1, c1⟩ (Nat.ne_of_lt (Heap.lt_size two)) (Heap.get?_push_size _ rfl) rfl (by first | (simp; done) | (simp; omega) | (simp only [Array.size_append]; simp; omega)) ?_
  refine wpAny_bind (wpAny_isInstance (T := "StopIteration") (b := true) ⟨_, Heap.get?_update_self _ (Heap.get?_push_size _ rfl) rfl, rfl⟩ isSubtype_stop ?_)
  refine wpAny_pure (told _ fun b o hb e => ?_)
  have e2 := Heap.get?_push_of_some { cls := .type "tuple", data := .seq #[] } (keep hb e)
  exact (Heap.get?_update_other _ _ (Nat.ne_of_gt (Heap.lt_size e2))).trans (Heap.get?_push_of_some _ e2)
theorem tupIter_end_hot {it l x1 : Addr} {i : Nat} {arr : Array Value} {Q : Option Value → Shared → Prop} (hot : HotAt A x1 s.heap) (at_ : s.heap.IsTupleIter it l i) (tup : s.heap.IsTuple l arr) (out : arr[i]? = none)
    (told : ∀ h', Off it s.heap h' → Q none { s with heap := h' }) : wpAny (model prog w) A (pyNext (.ref it)) Q E s := by
  obtain ⟨hnd, o1, vs1, g1, d1, c1⟩ := hot
  obtain ⟨oi, gi, ci, di⟩ := id at_
  obtain ⟨ol, gl, _, nl, dl⟩ := tup
  have apart : x1 ≠ it := fun e => by
    rw [e, gi] at g1
    cases g1
    rw [di] at d1
    cases d1
    simp at c1
  unfold pyNext
  refine wpAny_bind (wpAny_attempt (wpAny_callSpecial?_slot (name := Str.ofString "__next__") at_.typeIs F.slot_tuple_iterator_next (wpAny_call_entry F.slot_tuple_iterator_next at_.typeIs F.entry_tuple_iterator_next ?_ (F.args_tuple_iterator_next_1 _))))
  show wpAny _ _ (field (.ref it) 0 >>= _) _ _ s
  refine wpAny_bind (wpAny_field gi di (x := Value.ref l) rfl ?_)
  show wpAny _ _ (if (Value.ref l == Value.none) = true then _ else _) _ _ s
  rw [if_neg (by exact Bool.false_ne_true)]
  show wpAny _ _ (field (.ref it) 1 >>= _) _ _ s
  refine wpAny_bind (wpAny_field gi di (x := Value.int i 0) rfl ?_)
  show wpAny _ _ (seqItems? (.ref l) >>= _) _ _ s
  refine wpAny_bind (wpAny_seqItems gl dl ?_)
  simp only [Int.toNat_natCast, out]
  refine wpAny_bind (wpAny_rule (wpAny_bind (wpAny_setField gi di (by simp) ?_)))
  show wpAny _ _ (newExc (.type "StopIteration") [] >>= _) _ _ _
  refine wpAny_bind ?_
  simp only [newExc, newTuple]
  refine wpAny_bind (wpAny_newObj_type ?_ (by size_fits))
  refine wpAny_bind (m := firstArgMember _ _) (wpAny_of_eq (a := Value.none) (by first | rfl | (simp only [firstArgMember]; rfl)) ?_)
  refine wpAny_newObj_type ?_ (by size_fits)
  have keep : ∀ {b : Addr} {o : Obj}, b ≠ it → s.heap.get? b = some o → (s.heap.update it (Obj.mapFields fun x => x.setIfInBounds 0 Value.none)).get? b = some o := fun hb e => (Heap.get?_update_other _ _ (Ne.symm hb)).trans e
  have two := Heap.get?_push_of_some { cls := .type "tuple", data := .seq #[] } (keep apart g1)
  refine raiseNew_hot ⟨hnd, o1, vs1, Heap.get?_push_of_some _ two, d1, c1⟩ (Nat.ne_of_lt (Heap.lt_size two)) (Heap.get?_push_size _ rfl) rfl (by first | (simp; done) | (simp; omega) | (simp only [Array.size_append]; simp; omega)) ?_
  refine wpAny_bind (wpAny_isInstance (T := "StopIteration") (b := true) ⟨_, Heap.get?_update_self _ (Heap.get?_push_size _ rfl) rfl, rfl⟩ isSubtype_stop ?_)
  refine wpAny_pure (told _ fun b o hb e => ?_)
  have e2 := Heap.get?_push_of_some { cls := .type "tuple", data := .seq #[] } (keep hb e)
  exact (Heap.get?_update_other _ _ (Nat.ne_of_gt (Heap.lt_size e2))).trans (Heap.get?_push_of_some _ e2)
/-- a tuple taken apart -/
theorem apart_hot {t x1 : Addr} {arr : Array Value} {Q : List Value → Shared → Prop} (hot : HotAt A x1 s.heap) (tup : IsTup s.heap t arr)
    (told : ∀ h', Off s.heap.objs.size s.heap h' → Q arr.toList { s with heap := h' }) : wpAny (model prog w) A (unpackItems (.ref t) arr.size none) Q E s := by
  obtain ⟨hnd, o1, vs1, g1, d1, c1⟩ := hot
  have below : t < s.heap.objs.size := by
    obtain ⟨o, ho, _⟩ := tup
    exact Heap.lt_size ho
  have tn : t ≠ s.heap.objs.size := Nat.ne_of_lt below
  have xn : x1 ≠ s.heap.objs.size := Nat.ne_of_lt (Heap.lt_size g1)
  unfold unpackItems
  refine wpAny_bind ?_
  unfold notIterableAtAll
  refine wpAny_bind (wpAny_specialOf tup.typeIs slot_tuple_iter.lookup (wpAny_pure ?_))
  simp only [Bool.false_eq_true, if_false]
  refine wpAny_bind (wpAny_holding (iter_tuple tup (wpAny_bind (wpAny_holding ?_))))
  refine draw_tuple tn arr.size 0 _ _ ⟨_, Heap.get?_push_size _ rfl, rfl, rfl⟩ (tup.push _) (by omega) fun h1 it1 same1 => ?_
  have whole : List.take arr.size (List.drop 0 arr.toList) = arr.toList := by
    rw [List.drop_zero]
    exact List.take_of_length_le (by simp)
  rw [whole, if_neg (by simp)]
  have tup1 : IsTup h1 t arr := (tup.push _).extBut same1.extBut tn
  have g2 : h1.get? x1 = some o1 := same1.extBut x1 o1 xn (Heap.get?_push_of_some _ g1)
  refine wpAny_bind (wpAny_holding (tupIter_end_hot (it := s.heap.objs.size) (i := 0 + arr.size) ⟨hnd, o1, vs1, g2, d1, c1⟩ it1 tup1 (by simp) fun h2 off => ?_))
  simp only [Option.isSome_none, Bool.false_eq_true, if_false]
  exact wpAny_pure (told h2 fun b o hb e => off b o hb (same1.extBut b o hb (Heap.get?_push_of_some _ e)))
end
theorem turn_listH {P : Program} {w : World} {K : PySem.W.Frag} {tg : Expr} (a it : Addr) : TurnH P w K tg (Itl K a) [it] it (fun i h => h.IsListIter it a i) where
  mem := (turn_list (P := P) (w := w) (K := K) (tg := tg) a it).mem
  obj := (turn_list (P := P) (w := w) (K := K) (tg := tg) a it).obj
  keep := (turn_list (P := P) (w := w) (K := K) (tg := tg) a it).keep
  item := by
    intro X hP hw hK _ i pins s σ H E I fits at_ going
    subst hP hw hK
    obtain ⟨xs, x, hq, hx⟩ := going
    obtain ⟨its, rv, pl, _⟩ := I.list hq
    obtain ⟨u, hu, ru⟩ := rv.get hx
    obtain ⟨k0, k1, k2, k3, k4, k5⟩ := fits it (by simp)
    refine wpAny_pyNext_list_item at_ pl.isList (x := u) (by simpa using hu) fun h' on sb => ?_
    have J : Inv X pins σ H { s with heap := h' } := I.turned (t' := s.toks) (fun b o hb e => (sb.2 b hb).trans e) k0 k1 k3 k4 k5
    obtain ⟨oi, gi, ci, di⟩ := id on
    refine ⟨u, rfl, go_of (s := { s with heap := h' }) gi ci di (by decide) ⟨x, H, J, ru, ⟨rfl, fun ys hy => ?_⟩, on, fun b hb => (fits b hb).1⟩⟩
    rw [I.list_inj hy hq]
    exact hx
  done := by
    intro X hP hw hK hc i pins s σ H E I fits at_ over
    subst hP hw hK
    obtain ⟨xs, hq, hx⟩ := over
    obtain ⟨its, rv, pl, _⟩ := I.list hq
    obtain ⟨k0, k1, k2, k3, k4, k5⟩ := fits it (by simp)
    have hl := rv.length
    obtain ⟨x1, hot⟩ := hc.at I
    exact listIter_end_hot hot at_ pl.isList (by simp; omega) fun h' off => ⟨rfl, I.turned (t' := s.toks) off k0 k1 k3 k4 k5⟩
  self := (turn_list (P := P) (w := w) (K := K) (tg := tg) a it).self
theorem turn_tupH {P : Program} {w : World} {K : PySem.W.Frag} {tg : Expr} (a it : Addr) : TurnH P w K tg (Itt K a) [it] it (fun i h => h.IsTupleIter it a i) where
  mem := (turn_tuple (P := P) (w := w) (K := K) (tg := tg) a it).mem
  obj := (turn_tuple (P := P) (w := w) (K := K) (tg := tg) a it).obj
  keep := (turn_tuple (P := P) (w := w) (K := K) (tg := tg) a it).keep
  item := by
    intro X hP hw hK _ i pins s σ H E I fits at_ going
    subst hP hw hK
    obtain ⟨xs, x, hq, hx⟩ := going
    obtain ⟨its, rv, pl, _⟩ := I.tuple hq
    obtain ⟨u, hu, ru⟩ := rv.get hx
    obtain ⟨k0, k1, k2, k3, k4, k5⟩ := fits it (by simp)
    refine wpAny_pyNext_tuple_item at_ (show s.heap.IsTuple a its.toArray from pl) (x := u) (by simpa using hu) fun h' on sb => ?_
    have J : Inv X pins σ H { s with heap := h' } := I.turned (t' := s.toks) (fun b o hb e => (sb.2 b hb).trans e) k0 k1 k3 k4 k5
    obtain ⟨oi, gi, ci, di⟩ := id on
    refine ⟨u, rfl, go_of (s := { s with heap := h' }) gi ci di (by decide) ⟨x, H, J, ru, ⟨rfl, fun ys hy => ?_⟩, on, fun b hb => (fits b hb).1⟩⟩
    rw [I.tuple_inj hy hq]
    exact hx
  done := by
    intro X hP hw hK hc i pins s σ H E I fits at_ over
    subst hP hw hK
    obtain ⟨xs, hq, hx⟩ := over
    obtain ⟨its, rv, pl, _⟩ := I.tuple hq
    obtain ⟨k0, k1, k2, k3, k4, k5⟩ := fits it (by simp)
    have hl := rv.length
    obtain ⟨x1, hot⟩ := hc.at I
    exact tupIter_end_hot hot at_ (show s.heap.IsTuple a its.toArray from pl) (by simp; omega) fun h' off => ⟨rfl, I.turned (t' := s.toks) off k0 k1 k3 k4 k5⟩
  self := (turn_tuple (P := P) (w := w) (K := K) (tg := tg) a it).self
section
variable {X : Cx} {tg : Expr}
theorem pi_listH {l : Expr} {tl : TE} (hl : PE X l tl) : PIH X tg l (iList X.K tl) := by
  refine ⟨fun pins s σ H R I h => thn (hl.run pins s σ H _ I h) fun v s1 ⟨x, H1, I1, r1, a, e, ⟨xs, hq⟩, q⟩ => ?_⟩
  subst e
  cases r1
  obtain ⟨its, rv, pl, _⟩ := I1.list hq
  refine wpAny_pyIter_list pl.isList ⟨s1.heap.objs.size, [s1.heap.objs.size], _, _, H1, rfl, I1.kept (t' := s1.toks) fun b o e => Heap.get?_push_of_some _ e, turn_listH a _, ⟨_, Heap.get?_push_size _ rfl, rfl, rfl⟩, fun b hb => ?_, q⟩
  obtain rfl : b = s1.heap.objs.size := by simpa using hb
  exact I1.fpOk (Nat.le_refl _) (I1.hok.fresh (Nat.le_refl _))
theorem pi_tupH {l : Expr} {tl : TE} (hl : PE X l tl) : PIH X tg l (iTup X.K tl) := by
  refine ⟨fun pins s σ H R I h => thn (hl.run pins s σ H _ I h) fun v s1 ⟨x, H1, I1, r1, a, e, ⟨xs, hq⟩, q⟩ => ?_⟩
  subst e
  cases r1
  obtain ⟨its, rv, pl, _⟩ := I1.tuple hq
  refine wpAny_pyIter_tuple (show s1.heap.IsTuple a its.toArray from pl) ⟨s1.heap.objs.size, [s1.heap.objs.size], _, _, H1, rfl, I1.kept (t' := s1.toks) fun b o e => Heap.get?_push_of_some _ e, turn_tupH a _, ⟨_, Heap.get?_push_size _ rfl, rfl, rfl⟩, fun b hb => ?_, q⟩
  obtain rfl : b = s1.heap.objs.size := by simpa using hb
  exact I1.fpOk (Nat.le_refl _) (I1.hok.fresh (Nat.le_refl _))
theorem pg_tupH {es : List Expr} {k : Nat} {t : TGs} {n : Nat} {pos : Pos} (hc : HotC X) (h : PGs X es t) (hn : (assignEach es X.env).length = n := by rfl) (hst : (assignEach es X.env).findIdx? (·.1) = none := by rfl) : PG X (.Tuple es k pos) (gTup X.K n t) := by
  refine ⟨fun pins s σ H v u Q I r ⟨a, xs, e, hq, hl, hw⟩ => ?_⟩
  subst e
  cases r
  obtain ⟨its, rv, tup, _⟩ := I.tuple hq
  obtain ⟨x1, hot⟩ := hc.at I
  have many : (assignEach es X.env).length = its.toArray.size := by simp [hn, ← hl, rv.length]
  rw [assign_Tuple]
  refine wpAny_bind (wpAny_standAt ?_)
  unfold unpack
  rw [many, hst]
  refine wpAny_bind (wpAny_holding (apart_hot hot tup fun h' off => ?_))
  have J : Inv X pins σ H { s with heap := h' } := I.kept (t' := s.toks) fun b o e => off b o (Nat.ne_of_lt (Heap.lt_size e)) e
  exact h.run pins _ σ H xs _ Q J (by simpa using rv) hw
end
end V0
/-! own errors with a field, over a base class over ValueError: made, raised, caught, asked, with defs called where they are handled -/
namespace V0
open PySem PySem.Spec PyProof.Rows L2
/-- Base.__init__(self, ..) of an own class over ValueError without an __init__ of its own -/
theorem pe_binit {X : Cx} {x : Str} {B : Addr} {mc : Value} {e : Expr} {es : List Expr} {ta : TA} {pn pa pc : Pos} {pl : Sem Bool} (hg : Gl X x) (hm : X.mg x = some (.ref B))
    (sp : PySem.W.specialIn X.K (.ref B) "__getattribute__" = some (some (.builtin "type.__getattribute__"))) (rd : PySem.W.readsIn X.K B mc = true)
    (fv : PySem.W.findCls X.K (.ref B) mc "__init__" = some (.val (.builtin "ValueError.__init__"))) (ha : PA X (e :: es) ta)
    (hev : eval (.Call (.Attribute (.Name x pn) "__init__" pa) (e :: es) [] pc) X.env =
      (eval (.Name x pn) X.env >>= fun ov => standAt pa.atName >>= fun _ => holding [ov] (getMethod ov "__init__" pl) >>= fun fx => callWith pc fx.1 fx.2 (backTo pc (starEach (e :: es) X.env)) (backToKw pc (keywordEach [] X.env))) := by rfl)
    (hdb : (x == ("__debug__" : Str)) = false := by decide) (hst : starEach (e :: es) X.env = (false, eval e X.env) :: starEach es X.env := by rfl) (hpl : (backTo pc (starEach es X.env)).any (·.1) = false := by rfl) :
    PE X (.Call (.Attribute (.Name x pn) "__init__" pa) (e :: es) [] pc) (tVeI X.K ta) := by
  constructor
  intro pins s σ H Q I h
  refine PySem.W.methodCall_KW (ld_glob I hg hm ?_ hdb) hev
  refine PySem.W.method_cls I.kIn sp (PySem.W.cls_value I.kIn rd fv rfl ?_)
  refine PyProof.Rows.callWith_method1 (thn (ha.run pc pins _ σ H _ (I.tok _) h) fun us s1 hh => ?_) hst hpl
  obtain ⟨vs, H1, I1, r1, a, C, ws, rfl, hl, T, ea, q⟩ := hh
  obtain ⟨u0, ur, rfl, ra, rr⟩ : ∃ u0 ur, us = u0 :: ur ∧ RelV (.ref a) u0 ∧ Vals ws ur := by
    cases r1 with
    | cons ra rr => exact ⟨_, _, rfl, ra, rr⟩
  obtain rfl : u0 = Value.ref a := ra
  have hz : ur.length ≤ sizeLine := by
    have e1 := rr.length
    rw [sizeLine_eq]
    omega
  exact oinit_ok T I1 ea hz fun s2 I2 => ⟨.non, H1, I2, rfl, q⟩
theorem exm_of {K : PySem.W.Frag} {A S : Addr} {b : Bool} (base : PySem.W.subIn K (.ref S) (.type "BaseException") = some true) (cls : PySem.W.isClsIn K S = true) (ty : PySem.W.typeIn K (.ref S) = some (.type "type")) (sub : PySem.W.subIn K (.ref A) (.ref S) = some b) : PySem.W.exmOne K (.ref A) (.ref S) = some b := by
  have c1 : (PySem.W.subIn K (.ref S) (.type "BaseException") == some true) = true := beq_iff_eq.mpr base
  have c2 : ((PySem.W.clsIn K S).isSome && PySem.W.typeIn K (.ref S) == some (.type "type")) = true := Bool.and_eq_true_iff.mpr ⟨cls, beq_iff_eq.mpr ty⟩
  unfold PySem.W.exmOne PySem.W.kitCls
  simp only [c1, if_true]
  exact (if_pos c2).trans sub
/-- an error class of the text, with its __init__ -/
structure Exc (K : PySem.W.Frag) (mg : Str → Option Value) (x : Str) (C fI : Addr) (fd : FuncData) (fld : Str) : Prop where
  m : mg x = some (.ref C)
  oex : OexC K C
  ini : PySem.W.findIn K (.ref C) "__init__" = some (some (.ref fI))
  ty : PySem.W.typeIn K (.ref fI) = some (.type "function")
  b : Binds K fd ["self", fld] []
  no : PySem.W.findIn K (.ref C) fld = some none
  xf : XfC K C
  cl : PySem.W.isClsIn K C = true
  sf : PySem.W.subIn K (.ref C) (.ref C) = some true
theorem Exc.exm {K : PySem.W.Frag} {mg : Str → Option Value} {x fld : Str} {C fI : Addr} {fd : FuncData} (X : Exc K mg x C fI fd fld) {D : Addr} {b : Bool} (h : PySem.W.subIn K (.ref D) (.ref C) = some b) : PySem.W.exmOne K (.ref D) (.ref C) = some b := exm_of X.oex.exC X.cl X.oex.tyC h
/-- the base class of the errors -/
structure ExcB (K : PySem.W.Frag) (mg : Str → Option Value) (x : Str) (B : Addr) (mc : Value) : Prop where
  m : mg x = some (.ref B)
  ga : PySem.W.specialIn K (.ref B) "__getattribute__" = some (some (.builtin "type.__getattribute__"))
  rd : PySem.W.readsIn K B mc = true
  vi : PySem.W.findCls K (.ref B) mc "__init__" = some (.val (.builtin "ValueError.__init__"))
/-- an error's __init__: its field is the text -/
def spExc (K : PySem.W.Frag) (fld : Str) : Sp := fun vs H Q _ => ∃ (a C : Addr) (z : Str), vs = [.ref a, .str z] ∧ OexC K C ∧ PySem.W.findIn K (.ref C) fld = some none ∧ H a = some (exo a C none) ∧ z.length ≤ 1000 ∧
  ∀ dx, H dx = none → dx ≠ a → Q .non (upd (upd H dx (exd dx [(fld, .str z)])) a (exo a C (some dx)))
theorem app_len (a b : Str) : (a ++ b).length = a.length + b.length := by
  show (a.cps ++ b.cps).size = a.cps.size + b.cps.size
  rw [Array.size_append]
theorem small2000 {n : Nat} (h : n ≤ 2000) : n ≤ sizeLine := Nat.le_trans h (by decide)
/-- what a raise of it leaves: its dict, new; all else as it was -/
theorem raised {K : PySem.W.Frag} {mg : Str → Option Value} {C fI : Addr} {fd : FuncData} {x fld z : Str} {H : Hp} {E : XK} (X : Exc K mg x C fI fd fld) (hz : z.length ≤ 1000)
    (q : ∀ d H', Same H H' → H' d = some (.xd [(fld, .str z)]) → E (.ref C) (some d) H') : ∀ a, H a = none → spExc K fld (.ref a :: ([.str z] ++ [])) (upd H a (exo a C none))
      (fun v H2 => v = .non ∧ ∃ (d : Addr) (fs : List (Str × V)), H2 a = some (exo a C (some d)) ∧ H2 d = some (exd d fs) ∧ H d = none ∧ E (.ref C) (some d) (upd (del H2 a) d (.xd fs))) (fun _ _ _ => False) := by
  intro a na
  refine ⟨a, C, z, rfl, X.oex, X.no, upd_same, hz, fun dx ndx ne => ?_⟩
  have nd : H dx = none := by
    rw [upd_ne ne] at ndx
    exact ndx
  refine ⟨rfl, dx, _, upd_same, by rw [upd_ne ne, upd_same], nd, q dx _ (fun b o e => ?_) upd_same⟩
  have nba : b ≠ a := ne_of_none e na
  have nbd : b ≠ dx := ne_of_none e nd
  rw [upd_ne nbd, del_ne nba, upd_ne nba, upd_ne nbd, upd_ne nba]
  exact e
section
variable {P : Program} {w : World} {K : PySem.W.Frag} {mg : Str → Option Value} {base : Heap}
/-- a def that may raise where nothing is handled -/
theorem okN {x qual : Str} {st : Stmt} {f : Addr} {fd : FuncData} {N ps : List Str} {k : Nat} {sp : Sp} (F : Fun K x qual st f fd) (S : FnScope N ps (defScope st)) (len : ∀ vs H Q E, sp vs H Q E → vs.length = ps.length)
    (walk : ∀ (cdv : Value) (A : Around) (outer : List Env) (s : Shared) (H : Hp) (vs : List V) (Q : VK) (E : XK), Room k (A.deeper (envOfC qual (defScope st) s.heap.objs.size f cdv)) → sp vs H Q E →
      ∃ t, PSs (cxOf (L2N.CX P w) P w K mg base N qual (defScope st) f cdv A outer s H E) (defBody st) t ∧ t { nx := fun _ H' => Q .non H', rt := Q } (L2.start N vs) H) : FnOk P w K mg base (L2N.CX P w) (k + 1) f fd ps sp := by
  obtain ⟨_, _, _, _, _, _, cdv, _, _, rfl, look, cod⟩ := F.ex
  exact fn_of look cod S len fun A outer s H vs Q E room told => walk cdv A outer s H vs Q E room told
/-- a def that is called where an error is handled -/
theorem okH {x qual : Str} {st : Stmt} {f : Addr} {fd : FuncData} {N ps : List Str} {k : Nat} {sp : Sp} (F : Fun K x qual st f fd) (S : FnScope N ps (defScope st)) (len : ∀ vs H Q E, sp vs H Q E → vs.length = ps.length)
    (walk : ∀ (cdv : Value) (A : Around) (outer : List Env) (s : Shared) (H : Hp) (vs : List V) (Q : VK) (E : XK) (p : Addr × Obj), L2H.HotC (L2H.cxH CX0 P w K mg base N qual (defScope st) f cdv A outer s H E p) → L2H.RoomH k (A.deeper (envOfC qual (defScope st) s.heap.objs.size f cdv)) → sp vs H Q E →
      ∃ t, PSs (L2H.cxH CX0 P w K mg base N qual (defScope st) f cdv A outer s H E p) (defBody st) t ∧ t { nx := fun _ H' => Q .non H', rt := Q } (L2.start N vs) H) : L2H.FnH P w K mg base CX0 (k + 1) f fd ps sp := by
  obtain ⟨_, _, _, _, _, _, cdv, _, _, rfl, look, cod⟩ := F.ex
  exact L2H.fn_ofH look cod S len fun A outer s H vs Q E p hot room told => walk cdv A outer s H vs Q E p ⟨p, hot, List.mem_cons_self⟩ room told
end
/-- C(e, ..) of such an error, made where nothing is handled -/
theorem pmk_oexN {X : Cx} {CX : CXT} {x : Str} {e : Expr} {es : List Expr} {ta : TA} {p pos : Pos} {C fI : Addr} {k : Nat} {fd : FuncData} {ps : List Str} {sp : Sp} (T : OexC X.K C) (ini : PySem.W.findIn X.K (.ref C) "__init__" = some (some (.ref fI))) (fty : PySem.W.typeIn X.K (.ref fI) = some (.type "function"))
    (G : FnOk X.prog X.w X.K X.mg X.base CX k fI fd ps sp) (room : Room (k + 1) X.A) (bi : Binds X.K fd ps []) (out : Passes CX X (fun _ _ _ => False)) (gl : Gl X x) (named : X.mg x = some (.ref C)) (args : PA X (e :: es) ta)
    (dbg : (x == ("__debug__" : Str)) = false := by decide) (one : starEach (e :: es) X.env = (false, eval e X.env) :: starEach es X.env := by rfl) (plain : (backTo pos (starEach es X.env)).any (·.1) = false := by rfl) :
    L2N.PMk X (.Call (.Name x p) (e :: es) [] pos) (tMkO C sp [] ta) := by
  intro pins s σ H Q I told
  obtain ⟨_, _, _, _, bm, _, _, _, _, _, _, _, _, _, _, there, ve⟩ := T.cls
  refine wpAny_Call_Name_kw (ld_glob I gl named ?_ dbg)
  refine PySem.W.callWith_K (h₀ := X.base) I.ok.mod.kin T.kC (thn (args.run pos pins s σ H _ I told) fun us s1 ⟨vs, H1, J, rv, _, want⟩ => ⟨J.kIn, ?_⟩) one plain
  show wpAny _ _ (call (.ref C) us) _ _ _
  obtain ⟨h1, gens, drawn, toks, os⟩ := s1
  have up : h1.objs.size ≤ h1.objs.size + 1 := Nat.le_succ _
  have asks := want (h1.objs.size + 1) (J.hok.fresh up)
  rw [List.append_nil] at asks
  have old : ∀ b o, h1.get? b = some o → ((h1.push (PySem.W.kdv_tup us)).push (PySem.HandSPX.excO C h1.objs.size)).get? b = some o := fun b o z => Heap.get?_push_of_some _ (Heap.get?_push_of_some _ z)
  have new_ : ((h1.push (PySem.W.kdv_tup us)).push (PySem.HandSPX.excO C h1.objs.size)).get? (h1.objs.size + 1) = some (PySem.HandSPX.excO C h1.objs.size) := by heap_get
  have J2 : Inv X pins σ (upd H1 (h1.objs.size + 1) (exo (h1.objs.size + 1) C none)) ⟨(h1.push (PySem.W.kdv_tup us)).push (PySem.HandSPX.excO C h1.objs.size), gens, drawn, toks, os⟩ :=
    J.laid (t' := toks) (a := h1.objs.size + 1) (o := exo (h1.objs.size + 1) C none) (h' := (h1.push (PySem.W.kdv_tup us)).push (PySem.HandSPX.excO C h1.objs.size)) old up (exo_ok new_)
  have rv2 : Vals (V.ref (h1.objs.size + 1) :: vs) (Value.ref (h1.objs.size + 1) :: us) := .cons rfl rv
  have many : (Value.ref (h1.objs.size + 1) :: us ++ []).length = ps.length := by
    have z := rv2.length
    rw [G.len _ _ _ _ asks] at z
    rw [List.append_nil]
    exact z.symm
  have few : us.length ≤ sizeLine := by
    have z := Paired.length rv
    rw [sizeLine_eq]
    omega
  have bound := bi _ (Value.ref (h1.objs.size + 1) :: us) J2.kIn many
  rw [List.append_nil] at bound
  refine wpAny_call (PySem.HandSPX.call_own F.excBase_ValueError (fun Y => PySem.HandSPX.refsVE_contains Y bm ve) (J.kIn _ _ there) (PySem.W.looks_findIn J.kIn ini) (fun self => PySem.W.bind_fn J.kIn self fty) few
    (codeAny_mono (G.run _ X.stack _ _ ⟨Value.ref (h1.objs.size + 1) :: us, []⟩ (Value.ref (h1.objs.size + 1) :: us) _ _ (fun _ _ _ => False) (room.make C us []) (J2.env0.make C us []) bound rv2 asks) fun r s' fin => ?_))
  match r, fin with
  | .error er, fin => exact out pins σ _ _ er s' J2 fin
  | .ok .next, fin => exact False.elim fin
  | .ok .brk, fin => exact False.elim fin
  | .ok .cont, fin => exact False.elim fin
  | .ok (.ret u), ⟨v, H2, os2, bare2, un2, hok2, rv', ev, d, fs, ea, ed, hd1, q2⟩ =>
    subst ev
    obtain ⟨h2, g2, d2, t2, os'⟩ := s'
    obtain ⟨_, G', J', kG, ge, hoe, na⟩ := mk_end0 (d2 := d2) (t2 := t2) J up old un2 hok2 os2 bare2 ea ed hd1
    refine ⟨rv', h1.objs.size + 1, _, _, ⟨G', g2, d2, t2, os'⟩, _, .ref C, some d, rfl, J', kG, ge, hoe, ⟨rfl, rfl, fun vs hv => ?_⟩, rfl, rfl, na, rfl, bare2, raises_own T.exC T.tyC, q2⟩
    cases hv
    rfl
/-- where a caught error is handled, defs can be called -/
theorem hot_suite {X : Cx} {a : Addr} {oe : Obj} {cls : Value} {d : Option Addr} {pn : List (Addr × Obj)} (hz : L2N.Zn cls d oe) (hf : ∃ vs, oe.data = .fields vs) : L2H.HotC (X.suite a ((a, oe) :: pn)) := by
  obtain ⟨vs, e⟩ := hf
  exact ⟨(a, oe), ⟨rfl, vs, e, hz.2.2 vs e⟩, List.mem_cons_self⟩
/-- isinstance(e, C), e the error that the suite holds, with its own dict -/
def rIsEx (K : PySem.W.Frag) (D a : Addr) (cls : Value) (d : Option Addr) : List V → Hp → VK → Prop := fun xs H Q => ∃ (c : V) (cv : Value) (b : Bool) (dd : Addr) (fs : List (Str × V)), xs = [.ref a, c] ∧ ClsV c cv ∧ cls = .ref D ∧ d = some dd ∧ H dd = some (.xd fs) ∧ PySem.W.kitOne K (.ref D) cv = some b ∧ Q (.bl b) H
/-- what such an error's class must say for isinstance -/
structure ExcI (K : PySem.W.Frag) (D : Addr) : Prop where
  xf : XfC K D
  cl : PySem.W.isClsIn K D = true
  ha : PySem.W.findIn K (.ref D) "__class__" = some (some (.builtin "object.__class__"))
  hn : PySem.W.specialIn K (.builtin "object.__class__") "__get__" = some (some (.builtin "getset_descriptor.__get__"))
  ht : PySem.W.takesIn K (.builtin "object.__class__") = some true
  hm : PySem.W.mroIn K D (.type "object") = some true
theorem call_isEx {X : Cx} {a D : Addr} {oe : Obj} {cls : Value} {d : Option Addr} {pn : List (Addr × Obj)} (C : ExcI X.K D) (hz : Zc cls d oe) (hf : ∃ vs, oe.data = .fields vs) : CallR (X.suite a ((a, oe) :: pn)) (.builtin "isinstance") (rIsEx X.K D a cls d) := by
  intro pins s σ H xs us Q I r told
  obtain ⟨c, cv, b, dd, fs, rfl, kc, rfl, rfl, hd, e, q⟩ := told
  obtain ⟨u1, u2, rfl, r1, r2⟩ := vals2 r
  obtain rfl := kc.eq r2
  obtain rfl : u1 = Value.ref a := r1
  obtain ⟨here, _⟩ := I.pin (a, oe) (List.mem_append_left _ List.mem_cons_self)
  obtain ⟨vs, hv⟩ := hf
  obtain ⟨mA, ns, _⟩ : ObjOk X.prog X.w H s.heap dd (.xd fs) := I.hok dd _ hd
  obtain ⟨od, ho, _⟩ := lookIn_ns ns
  have J : PySem.W.InstAt s.heap a oe D (some od) := ⟨here, hz.1, by unfold PySem.W.notCls; rw [hv] <;> rfl, by rw [hz.2]; exact ho⟩
  exact PySem.W.kia_one (PySem.W.kitx_exc C.cl C.xf.ga C.xf.gg C.xf.exC C.ha C.hn C.ht C.hm) I.kIn J e (fun z => nomatch z) fun tk => ⟨.bl b, H, I.kept (t' := tk) fun _ _ z => z, rfl, q⟩
/-- around a body nothing is let out -/
theorem takes0N {X : Cx} : L2N.Takes X (fun _ _ _ _ => False) := fun _ _ x => by
  obtain ⟨_, _, _, _, _, _, _, _, _, _, _, _, _, _, _, _, z⟩ := x
  exact z.elim
theorem kit_cls_own {K : PySem.W.Frag} {D B : Addr} {b : Bool} (cl : PySem.W.isClsIn K B = true) (ty : PySem.W.typeIn K (.ref B) = some (.type "type")) (ne : D ≠ B) (sub : PySem.W.subIn K (.ref D) (.ref B) = some b) : PySem.W.kitOne K (.ref D) (.ref B) = some b := by
  have c2 : ((PySem.W.clsIn K B).isSome && PySem.W.typeIn K (.ref B) == some (.type "type")) = true := Bool.and_eq_true_iff.mpr ⟨cl, beq_iff_eq.mpr ty⟩
  unfold PySem.W.kitOne PySem.W.kitCls
  rw [if_neg (fun z => ne (Value.ref.inj (beq_iff_eq.mp z)))]
  simp only [c2, if_true]
  exact sub
theorem kit_cls_ty {K : PySem.W.Frag} {D : Addr} {T : String} {b : Bool} (mt : PySem.W.kitMeta T = true) (sub : PySem.W.subIn K (.ref D) (.type T) = some b) : PySem.W.kitOne K (.ref D) (.type T) = some b := by
  unfold PySem.W.kitOne PySem.W.kitCls
  rw [if_neg (by intro z; cases beq_iff_eq.mp z)]
  simp only [mt, if_true]
  exact sub
theorem kit_cls_yes {K : PySem.W.Frag} {D B : Addr} (cl : PySem.W.isClsIn K B = true) (ty : PySem.W.typeIn K (.ref B) = some (.type "type")) (sub : PySem.W.subIn K (.ref D) (.ref B) = some true) : PySem.W.kitOne K (.ref D) (.ref B) = some true := by
  by_cases e : D = B
  · unfold PySem.W.kitOne
    rw [if_pos (beq_iff_eq.mpr (by rw [e]))]
  · exact kit_cls_own cl ty e sub
end V0
/-! list(d.values()) -/
namespace V0
open PySem PySem.Spec PyProof.Rows L2
/-- list(o.values()), o a dict -/
def tListVals (td : TE) : TE := fun σ H Q => td σ H fun x H1 => ∃ a kvs, x = V.ref a ∧ H1 a = some (.dK kvs) ∧ ∀ q, H1 q = none → Q (.ref q) (upd H1 q (.lst (kvs.map (·.2))))
theorem kv_at : ∀ {kvs : List (Key × V)} {vs : List (Key × Value)}, KV kvs vs → ∀ {i : Nat} {k : Key} {v : Value}, vs[i]? = some (k, v) → ∃ x, kvs[i]? = some (k, x) ∧ RelV x v := by
  intro kvs vs r
  induction r with
  | nil =>
    intro i k v e
    simp at e
  | cons p r ih =>
    intro i k v e
    rename_i a b as bs
    cases i with
    | zero =>
      cases e
      exact ⟨a.2, (show some a = some (k, a.2) from congrArg some (Prod.ext p.1 rfl)), p.2⟩
    | succ i => exact ih e
theorem pe_listVals {X : Cx} {o : Expr} {p pos apos mpos : Pos} {td : TE} (hc : X.calm = true) (hg : Gl X "list") (hm : X.mg "list" = none) (hd : PE X o td) (hbase : attributeBase o "values" X.env (eval o X.env) = eval o X.env := by rfl) (hline : (apos.endLine == mpos.line) = true := by rfl)
    (na : starEach [Expr.Call (.Attribute o "values" apos) [] [] mpos] X.env = (false, eval (Expr.Call (.Attribute o "values" apos) [] [] mpos) X.env) :: starEach [] X.env := by rfl) :
    PE X (.Call (.Name "list" p) [.Call (.Attribute o "values" apos) [] [] mpos] [] pos) (tListVals td) := by
  refine ⟨fun pins s σ H Q I h => ?_⟩
  refine Call_ (ld_blt I hg hm boot_list (PyProof.Rows.callWith_type1 (args_cons (wpAny_Call_method0_late hbase hline (thn (hd.run pins s σ H _ I h) fun v s1 ⟨x, H1, I1, r1, a, kvs, ex, ha, q⟩ => ?_)) na) na))
  subst ex
  obtain rfl : v = Value.ref a := r1
  obtain ⟨hz, hsys, vs, rel, dof⟩ := dk_of I1.hok ha
  obtain ⟨ep, dat⟩ := dof.dictAt
  have dat' := dat
  obtain ⟨ob, es, ho, ex, hdat, hko, hpr, hnd⟩ := dat'
  refine ⟨"dict", "dict.values", F.plainAttrs_dict, F.slot_dict_values, F.type_dict_values, ⟨ob, ho, ex.1⟩, fun b e => ?_, Calls.callWith_builtin rfl (PySem.evalArgs_none ?_)⟩
  · cases e
    exact ⟨ob, ho, ex.2.1⟩
  refine call_meetsIn F.slot_dict_values ⟨ob, ho, ex.1⟩ F.entry_dict_values (F.args_dict_values_1 _) (meets_dict_values (mixKind X.prog X.w) a hsys) ⟨⟨vs, dof⟩, args_nil ?_⟩
  have k1 : ∀ b u, s1.heap.get? b = some u → (s1.heap.push { cls := .type "dict_values", data := .fields #[.ref a] }).get? b = some u := fun b u e => Heap.get?_push_of_some _ e
  have dat1 : (s1.heap.push { cls := .type "dict_values", data := .fields #[.ref a] }).DictAt (mixKind X.prog X.w) a vs ep := dat.keep k1
  have hl : kvs.length = vs.length := Paired.length rel
  refine PySem.W.kdl_call (PySem.W.kdl_values (knd := mixKind X.prog X.w) (kvs := vs) (ep := ep) (r := s1.heap.objs.size) (d := a)) (I1.ok.hd hc) ⟨⟨_, Heap.get?_push_size _ rfl, rfl, rfl⟩, dat1⟩ (by rw [← hl]; exact hz) fun h' tk acc' c' hk hS hacc => ?_
  have up : s1.heap.objs.size ≤ (s1.heap.push { cls := .type "dict_values", data := .fields #[.ref a] }).objs.size := by rw [Heap.size_push]; exact Nat.le_succ _
  refine ⟨.ref _, upd H1 _ (.lst (kvs.map (·.2))), I1.laid (t' := tk) (fun b u e => hk b u (k1 b u e)) up (show ObjOk X.prog X.w _ _ _ (.lst (kvs.map (·.2))) from ⟨?_, acc'.toList, c', ?_, ?_⟩), rfl, q _ (I1.hok.fresh up)⟩
  · rw [List.length_map]
    exact hz
  · have el : acc'.toList.length = acc'.size := by simp
    refine vals_of_at (by rw [List.length_map, el, hacc.1, hl]) fun j x w h1 h2 => ?_
    obtain ⟨k, hky⟩ := hacc.2 j w (by rw [← Array.getElem?_toList]; exact h2)
    obtain ⟨y, e1, e2⟩ := kv_at rel hky
    rw [List.getElem?_map, e1] at h1
    cases h1
    exact e2
  · rw [Array.toArray_toList]
    exact hS
end V0
/-! a dict comprehension set to a name -/
namespace V0
open PySem PySem.Spec PyProof.Rows L2
theorem ps_setDc {X : Cx} {i : Nat} {y : Str} {py : Pos} {kx vx tg iter : Expr} {ifs : List Expr} {scope : Scope} {own : List (Str × Nat)} {pos spos : Pos} {wi : TI} {g : TG} {tt : TT} {tk tv : TE} (hc : X.calm = true) (hN : X.N.Nodup) (hy : X.N[i]? = some y) (hyl : X.env.scope.names.lookup y = some .local)
    (hsw : swapsWith (.DictComp kx vx [⟨tg, iter, ifs, 0⟩] scope pos) (some (.Name y py)) spos.line X.env = pure true) (hi : PI X tg iter wi) (ok : BlkOk X.N X.env.scope scope own)
    (hg : ∀ (s : Shared) (H : Hp) (C : Addr) (cl : List (Str × Addr)) (fp : List Addr), PG (X.blk s H scope (compEnvC scope cl C X.env) fp) tg g) (ht : ∀ (s : Shared) (H : Hp) (C : Addr) (cl : List (Str × Addr)) (fp : List Addr), PTs (X.blk s H scope (compEnvC scope cl C X.env) fp) ifs tt)
    (hk : ∀ (s : Shared) (H : Hp) (C : Addr) (cl : List (Str × Addr)) (fp : List Addr), PE (X.blk s H scope (compEnvC scope cl C X.env) fp) kx tk)
    (he : ∀ (s : Shared) (H : Hp) (C : Addr) (cl : List (Str × Addr)) (fp : List Addr), PE (X.blk s H scope (compEnvC scope cl C X.env) fp) vx tv) (hs : ∀ x, foldedSetIterable iter X.env x = pure x := by intro _; rfl) :
    PS X (.Assign [.Name y py] (.DictComp kx vx [⟨tg, iter, ifs, 0⟩] scope pos) spos) (tAsg (tDc wi g tt tk tv (own.map (·.2))) (gName i)) := by
  refine ⟨fun pins s σ H D I h => ?_⟩
  rw [exec_Assign_Name_used _ _ _ _ hsw]
  refine wpAny_bind (wpAny_standAt (wpAny_bind ?_))
  show wpAny _ X.A (do let _ ← comprehension (.DictComp kx vx [⟨tg, iter, ifs, 0⟩] scope pos) scope X.env (firstIterPos [⟨tg, iter, ifs, 0⟩] pos) newDict false (eval iter X.env) (some (assign (.Name y py) X.env))) _ _ s
  have h : tDc wi g tt tk tv (own.map (·.2)) σ H (fun x H1 => gName i x σ H1 D.nx) := h
  refine wpAny_bind (thn (dc_core (Qf := fun _ s' => SP X pins D .next s') hc hN I hi ok hg ht hk he hs h fun L C s' m H' I' q hn f => ?_) fun _ s' hq => wpAny_pure (wpAny_pure hq))
  show wpAny _ _ (assign (.Name y py) X.env (.ref L)) _ _ _
  refine wpAny_assign_Name (store_ok2 (v := V.ref L) I' hN hy (.inl hyl) rfl (fun s2 I2 ⟨a, sb, ha⟩ => ?_) (.inr hyl))
  obtain ⟨f0, f1, f2, f3, f4, f5⟩ := f
  have haC : C ≠ a := by
    rcases ha with z | z
    · rw [z]; exact f1
    · exact fun e => f4 y a z e.symm
  refine ⟨m, hn.sameBut sb haC, fun h3 sb3 => ?_⟩
  exact ⟨_, H', I2.turned (t' := s2.toks) (fun b o hb e => (sb3.2 b hb).trans e) f0 f1 f3 f4 f5, q⟩
theorem swd_true {kx vx : Expr} {gs : List Comprehension} {scope : Scope} {pos py : Pos} {y : Str} {l : Nat} {env : Env} (hk : env.scope.kind = .function) (hy : env.scope.names.lookup y = some .local) (hl : (py.line == pos.line) = true)
    (ha : (scope.names.any fun (n, k) => n == y && (k == .local || k == .cell)) = false) : swapsWith (.DictComp kx vx gs scope pos) (some (.Name y py)) l env = pure true := by
  have ky : env.kindOf y = some .local := hy
  have hb : env.blockKind = .function := by unfold Env.blockKind; rw [hk]; rfl
  unfold swapsWith
  simp only [hb, ky, ha, Expr.pos, hl]
  rfl
end V0
/-! comprehensions over whole numbers whose parts change nothing that stands -/
namespace V0
open PySem PySem.Spec PyProof.Rows L2
theorem lcN {J : It} {G : Hp → Prop} {Y : Nat → Hp → V → Hp → Prop} {xs : List Nat} (w : Walk J xs.length G Y) {sl : Nat} {tt : TT} {te : TE} {σ : L2.St} {H1 : Hp} {D : Addr} {Qd : Hp → Prop} (p : Nat → Bool) (f : Nat → Nat)
    (nD : H1 D = none) (few : xs.length ≤ 60000) (hw : ∀ v, wipe ((wipe σ [sl]).set sl v) [sl] = wipe σ [sl]) (hG : ∀ Hz, Same H1 Hz → G Hz) (hY : ∀ i Hz x H', Y i Hz x H' → H' = Hz ∧ ∃ k, xs[i]? = some k ∧ x = .int (k : Nat))
    (ht : ∀ x ∈ xs, ∀ (Hz : Hp) (Q : Bool → Hp → Prop), Same H1 Hz → (∀ H', Same Hz H' → Q (p x) H') → tt ((wipe σ [sl]).set sl (some (.int (x : Nat)))) Hz Q)
    (hs : ∀ x ∈ xs, p x = true → ∀ (Hz : Hp) (Q : VK), Same H1 Hz → (∀ H', Same Hz H' → Q (.int (f x : Nat)) H') → te ((wipe σ [sl]).set sl (some (.int (x : Nat)))) Hz Q)
    (hd : ∀ H', Same H1 H' → H' D = some (.lst (vn ((xs.filter p).map f))) → Qd H') :
    ∃ W : Nat → Nat → Hp → Prop, (∃ m, W 0 m (upd H1 D (.lst []))) ∧ ∀ i m H, W i m H →
      (J.stop i H ∧ Qd H) ∨ (J.go i H ∧ ∃ Nx : Hp → Prop, (∀ H', Nx H' → ∃ m', m' < m ∧ W (i + 1) m' H') ∧ ∀ x H', J.yld i H x H' → gName sl x (wipe σ [sl]) H' fun σ2 H2 => wipe σ2 [sl] = wipe σ [sl] ∧ tt σ2 H2 fun b H3 =>
        if b = true then te σ2 H3 fun y H4 => ∃ acc, H4 D = some (.lst acc) ∧ acc.length < sizeLine ∧ Nx (upd H4 D (.lst (acc ++ [y]))) else Nx H3) := by
  refine lc_it w (fun i Hz => Same H1 Hz ∧ Hz D = some (.lst (vn (((xs.take i).filter p).map f)))) ⟨same_new nD, upd_same⟩ (fun i Hz _ h => hG _ h.1) ?_ ?_
  · rintro i x Hz H' hi ⟨sz, hZ⟩ y
    obtain ⟨rfl, k, hk, rfl⟩ := hY _ _ _ _ y
    have mem := List.mem_of_getElem? hk
    refine ⟨hw _, ht k mem _ _ sz fun H2 s2 => ?_⟩
    have e : ((xs.take (i + 1)).filter p).map f = ((xs.take i).filter p).map f ++ (if p k = true then [f k] else []) := by
      rw [take_snoc hk, List.filter_append, List.map_append, List.filter_cons]
      split <;> rfl
    by_cases c : p k = true
    · rw [if_pos c]
      refine hs k mem c _ _ (sz.trans s2) fun H3 s3 => ⟨_, s3 _ _ (s2 _ _ hZ), ?_, same_mut (sz.trans (s2.trans s3)) nD, ?_⟩
      · rw [vn_len, List.length_map]
        have h1 := List.length_filter_le p (xs.take i)
        rw [List.length_take] at h1
        exact small64k (by omega)
      · rw [upd_same, e, if_pos c, vn_snoc]
    · rw [if_neg c]
      refine ⟨sz.trans s2, ?_⟩
      rw [e, if_neg c, List.append_nil]
      exact s2 _ _ hZ
  · rintro Hz ⟨sz, hZ⟩
    rw [List.take_length] at hZ
    exact hd Hz sz hZ
section
variable {K : PySem.W.Frag} {a : Addr} {xs : List Nat} {sl : Nat} {tt : TT} {te : TE} {σ : L2.St} {H1 : Hp} {D : Addr} {Qd : Hp → Prop}
theorem yat_nat {i : Nat} {Hz H' : Hp} {x : V} (h : YAt (vn xs) i Hz x H') : H' = Hz ∧ ∃ k, xs[i]? = some k ∧ x = .int (k : Nat) := by
  refine ⟨h.1, ?_⟩
  have h := h.2
  unfold vn at h
  rw [List.getElem?_map] at h
  obtain ⟨k, e1, e2⟩ := Option.map_eq_some_iff.mp h
  exact ⟨k, e1, e2.symm⟩
/-- [f(x) for x in xs if p(x)] -/
theorem lcLf (p : Nat → Bool) (f : Nat → Nat) (nD : H1 D = none) (hx : H1 a = some (.lst (vn xs))) (few : xs.length ≤ 60000) (hw : ∀ v, wipe ((wipe σ [sl]).set sl v) [sl] = wipe σ [sl])
    (ht : ∀ x ∈ xs, ∀ (Hz : Hp) (Q : Bool → Hp → Prop), Same H1 Hz → (∀ H', Same Hz H' → Q (p x) H') → tt ((wipe σ [sl]).set sl (some (.int (x : Nat)))) Hz Q)
    (hs : ∀ x ∈ xs, p x = true → ∀ (Hz : Hp) (Q : VK), Same H1 Hz → (∀ H', Same Hz H' → Q (.int (f x : Nat)) H') → te ((wipe σ [sl]).set sl (some (.int (x : Nat)))) Hz Q)
    (hd : ∀ H', Same H1 H' → H' D = some (.lst (vn ((xs.filter p).map f))) → Qd H') :
    ∃ W : Nat → Nat → Hp → Prop, (∃ m, W 0 m (upd H1 D (.lst []))) ∧ ∀ i m H, W i m H →
      ((Itl K a).stop i H ∧ Qd H) ∨ ((Itl K a).go i H ∧ ∃ Nx : Hp → Prop, (∀ H', Nx H' → ∃ m', m' < m ∧ W (i + 1) m' H') ∧ ∀ x H', (Itl K a).yld i H x H' → gName sl x (wipe σ [sl]) H' fun σ2 H2 => wipe σ2 [sl] = wipe σ [sl] ∧ tt σ2 H2 fun b H3 =>
        if b = true then te σ2 H3 fun y H4 => ∃ acc, H4 D = some (.lst acc) ∧ acc.length < sizeLine ∧ Nx (upd H4 D (.lst (acc ++ [y]))) else Nx H3) := by
  have w := walk_list (K := K) (a := a) (xs := vn xs)
  rw [vn_len] at w
  exact lcN w p f nD few hw (fun Hz s => SqL.of (s _ _ hx)) (fun i Hz x H' y => yat_nat y) ht hs hd
/-- [f(x) for x in xs] -/
theorem lcL (f : Nat → Nat) (nD : H1 D = none) (hx : H1 a = some (.lst (vn xs))) (few : xs.length ≤ 60000) (hw : ∀ v, wipe ((wipe σ [sl]).set sl v) [sl] = wipe σ [sl])
    (hs : ∀ x ∈ xs, ∀ (Hz : Hp) (Q : VK), Same H1 Hz → (∀ H', Same Hz H' → Q (.int (f x : Nat)) H') → te ((wipe σ [sl]).set sl (some (.int (x : Nat)))) Hz Q)
    (hd : ∀ H', Same H1 H' → H' D = some (.lst (vn (xs.map f))) → Qd H') :
    ∃ W : Nat → Nat → Hp → Prop, (∃ m, W 0 m (upd H1 D (.lst []))) ∧ ∀ i m H, W i m H →
      ((Itl K a).stop i H ∧ Qd H) ∨ ((Itl K a).go i H ∧ ∃ Nx : Hp → Prop, (∀ H', Nx H' → ∃ m', m' < m ∧ W (i + 1) m' H') ∧ ∀ x H', (Itl K a).yld i H x H' → gName sl x (wipe σ [sl]) H' fun σ2 H2 => wipe σ2 [sl] = wipe σ [sl] ∧ tYes σ2 H2 fun b H3 =>
        if b = true then te σ2 H3 fun y H4 => ∃ acc, H4 D = some (.lst acc) ∧ acc.length < sizeLine ∧ Nx (upd H4 D (.lst (acc ++ [y]))) else Nx H3) :=
  lcLf (fun _ => true) f nD hx few hw (fun _ _ _ _ _ q => q _ (Same.refl _)) (fun x m _ => hs x m) fun H' s h => hd H' s (by rw [List.filter_eq_self.mpr (fun _ _ => rfl)] at h; exact h)
/-- [f(x) for x in t], t a tuple -/
theorem lcT (f : Nat → Nat) (nD : H1 D = none) (hx : SqT K H1 a (vn xs)) (few : xs.length ≤ 60000) (hw : ∀ v, wipe ((wipe σ [sl]).set sl v) [sl] = wipe σ [sl])
    (hs : ∀ x ∈ xs, ∀ (Hz : Hp) (Q : VK), Same H1 Hz → (∀ H', Same Hz H' → Q (.int (f x : Nat)) H') → te ((wipe σ [sl]).set sl (some (.int (x : Nat)))) Hz Q)
    (hd : ∀ H', Same H1 H' → H' D = some (.lst (vn (xs.map f))) → Qd H') :
    ∃ W : Nat → Nat → Hp → Prop, (∃ m, W 0 m (upd H1 D (.lst []))) ∧ ∀ i m H, W i m H →
      ((Itt K a).stop i H ∧ Qd H) ∨ ((Itt K a).go i H ∧ ∃ Nx : Hp → Prop, (∀ H', Nx H' → ∃ m', m' < m ∧ W (i + 1) m' H') ∧ ∀ x H', (Itt K a).yld i H x H' → gName sl x (wipe σ [sl]) H' fun σ2 H2 => wipe σ2 [sl] = wipe σ [sl] ∧ tYes σ2 H2 fun b H3 =>
        if b = true then te σ2 H3 fun y H4 => ∃ acc, H4 D = some (.lst acc) ∧ acc.length < sizeLine ∧ Nx (upd H4 D (.lst (acc ++ [y]))) else Nx H3) := by
  have w := walk_tup (K := K) (a := a) (xs := vn xs)
  rw [vn_len] at w
  exact lcN w (fun _ => true) f nD few hw (fun Hz s => tup_same s hx) (fun i Hz x H' y => yat_nat y) (fun _ _ _ _ _ q => q _ (Same.refl _)) (fun x m _ => hs x m) fun H' s h => hd H' s (by rw [List.filter_eq_self.mpr (fun _ _ => rfl)] at h; exact h)
/-- [f(x) for x in range(n) if p(x)] -/
theorem lcRf {n : Nat} (p : Nat → Bool) (f : Nat → Nat) (nD : H1 D = none) (few : n ≤ 60000) (hw : ∀ v, wipe ((wipe σ [sl]).set sl v) [sl] = wipe σ [sl])
    (ht : ∀ x, x < n → ∀ (Hz : Hp) (Q : Bool → Hp → Prop), Same H1 Hz → (∀ H', Same Hz H' → Q (p x) H') → tt ((wipe σ [sl]).set sl (some (.int (x : Nat)))) Hz Q)
    (hs : ∀ x, x < n → p x = true → ∀ (Hz : Hp) (Q : VK), Same H1 Hz → (∀ H', Same Hz H' → Q (.int (f x : Nat)) H') → te ((wipe σ [sl]).set sl (some (.int (x : Nat)))) Hz Q)
    (hd : ∀ H', Same H1 H' → H' D = some (.lst (vn (((List.range n).filter p).map f))) → Qd H') :
    ∃ W : Nat → Nat → Hp → Prop, (∃ m, W 0 m (upd H1 D (.lst []))) ∧ ∀ i m H, W i m H →
      ((Itr 0 n).stop i H ∧ Qd H) ∨ ((Itr 0 n).go i H ∧ ∃ Nx : Hp → Prop, (∀ H', Nx H' → ∃ m', m' < m ∧ W (i + 1) m' H') ∧ ∀ x H', (Itr 0 n).yld i H x H' → gName sl x (wipe σ [sl]) H' fun σ2 H2 => wipe σ2 [sl] = wipe σ [sl] ∧ tt σ2 H2 fun b H3 =>
        if b = true then te σ2 H3 fun y H4 => ∃ acc, H4 D = some (.lst acc) ∧ acc.length < sizeLine ∧ Nx (upd H4 D (.lst (acc ++ [y]))) else Nx H3) := by
  have w : Walk (Itr 0 n) (List.range n).length (fun _ => True) (fun i Hz x H' => i < n ∧ YFn (fun i => .int ((0 : Int) + (i : Nat))) i Hz x H') := by
    rw [List.length_range]
    have w0 := walk_range (lo := 0) (n := n)
    exact ⟨w0.goes, w0.stops, fun i Hz x H' hi t y => ⟨hi, w0.yields i Hz x H' hi t y⟩⟩
  refine lcN w p f nD (by rw [List.length_range]; exact few) hw (fun _ _ => trivial) (fun i Hz x H' y => ⟨y.2.1, i, List.getElem?_range y.1, ?_⟩) (fun x m => ht x (List.mem_range.mp m)) (fun x m => hs x (List.mem_range.mp m)) hd
  rw [y.2.2]
  show V.int (0 + (i : Int)) = _
  rw [Int.zero_add]
/-- [f(x) for x in range(n)] -/
theorem lcR {n : Nat} (f : Nat → Nat) (nD : H1 D = none) (few : n ≤ 60000) (hw : ∀ v, wipe ((wipe σ [sl]).set sl v) [sl] = wipe σ [sl])
    (hs : ∀ x, x < n → ∀ (Hz : Hp) (Q : VK), Same H1 Hz → (∀ H', Same Hz H' → Q (.int (f x : Nat)) H') → te ((wipe σ [sl]).set sl (some (.int (x : Nat)))) Hz Q)
    (hd : ∀ H', Same H1 H' → H' D = some (.lst (vn ((List.range n).map f))) → Qd H') :
    ∃ W : Nat → Nat → Hp → Prop, (∃ m, W 0 m (upd H1 D (.lst []))) ∧ ∀ i m H, W i m H →
      ((Itr 0 n).stop i H ∧ Qd H) ∨ ((Itr 0 n).go i H ∧ ∃ Nx : Hp → Prop, (∀ H', Nx H' → ∃ m', m' < m ∧ W (i + 1) m' H') ∧ ∀ x H', (Itr 0 n).yld i H x H' → gName sl x (wipe σ [sl]) H' fun σ2 H2 => wipe σ2 [sl] = wipe σ [sl] ∧ tYes σ2 H2 fun b H3 =>
        if b = true then te σ2 H3 fun y H4 => ∃ acc, H4 D = some (.lst acc) ∧ acc.length < sizeLine ∧ Nx (upd H4 D (.lst (acc ++ [y]))) else Nx H3) :=
  lcRf (fun _ => true) f nD few hw (fun _ _ _ _ _ q => q _ (Same.refl _)) (fun x m _ => hs x m) fun H' s h => hd H' s (by rw [List.filter_eq_self.mpr (fun _ _ => rfl)] at h; exact h)
end
end V0
/-! {list of whole numbers} in an f-string: some text of bounded length, whatever is under way; own errors whose field is a list -/
namespace V0
open PySem PySem.Spec PyProof.Rows L2
def lgF (self : Value) : Code × Pos → Bool := fun x => match x with
  | (Code.builtin "list.__repr__.loop" ⟨v :: _, _⟩, _) => Builtin.List.listSameRef v self
  | _ => false
theorem list_repr_tree (t : Value) : Builtin.listReprAt 0 ⟨[t], []⟩ = (do
    if (← Builtin.List.listItems t).isEmpty then (do rule "list.__repr__.empty"; retStr "[]") else (do
      if (← stack).tail.any (lgF t) then (do rule "list.__repr__.in-itself"; retStr "[...]") else
      again (.builtin "list.__repr__.loop" ⟨[t, rawInt 0, ← newList [], rawInt ((0 : Nat) : Int)], []⟩))) := rfl
theorem dots_len : ("[...]" : Str).length ≤ 5 := by decide +kernel
theorem none_len : ("[]" : Str).length ≤ 5 := by decide +kernel
section
variable {prog : Program} {w : World} {A : Around} {E : Value → Shared → Prop} {s : Shared}
theorem fmt_list_repr {a : Addr} {o : Obj} {items : Array Value} {n : Nat} {ts : List Str} {Q : Value → Shared → Prop} (ha : s.heap.get? a = some o) (hc : o.cls = .type "list") (hd : o.data = .seq items n) (hT : ReprAll prog w items.toList ts) (hsz : (listText ts).length + 5 ≤ sizeLine)
    (h : ∀ (m : Str) (h' : Heap) (u tk : Tok), m.length ≤ (listText ts).length + 5 → (∀ b o, s.heap.get? b = some o → h'.get? b = some o) → Q (.str m u) { s with heap := h', toks := tk }) : wpAny (model prog w) A (call (.builtin "list.__repr__") [.ref a]) Q E s := by
  refine wpAny_call (codeAny_call_builtin F.slot_list_repr.plain F.entry_list_repr (F.slot_list_repr.check _ _ _ _ _ _ _ _ ⟨o, ha, hc⟩ (F.args_list_repr_1 _) ?_))
  show wpAny _ _ (Builtin.listReprAt 0 ⟨[.ref a], []⟩) _ _ s
  rw [list_repr_tree]
  refine wpAny_bind (wpAny_listItems ha hd ?_)
  cases hi : items.isEmpty with
  | true =>
    refine PySem.W.KFB.if_so rfl ?_
    refine wpAny_bind (wpAny_rule ?_)
    refine wpAny_bind (wpAny_mkStr (wpAny_pure ?_) (by decide +kernel))
    exact h "[]" s.heap _ _ (Nat.le_trans none_len (Nat.le_add_left _ _)) fun _ _ e => e
  | false =>
    refine PySem.W.KFB.if_not rfl ?_
    refine wpAny_bind (wpAny_stack_any fun st => ?_)
    cases hb : st.tail.any (lgF (.ref a)) with
    | true =>
      refine PySem.W.KFB.if_so rfl ?_
      refine wpAny_bind (wpAny_rule ?_)
      refine wpAny_bind (wpAny_mkStr (wpAny_pure ?_) (by decide +kernel))
      exact h "[...]" s.heap _ _ (Nat.le_trans dots_len (Nat.le_add_left _ _)) fun _ _ e => e
    | false =>
      refine PySem.W.KFB.if_not rfl ?_
      refine wpAny_bind (m := newList []) (wpAny_newObj_type ?_)
      refine wpAny_pure ⟨F.quiet_list_repr_loop _, ?_⟩
      have hlen : ts.length = items.size := by simpa using hT.length_eq
      have hTi : ∀ (i : Nat) (y : Value), items[i]? = some y → ∃ t, ts[i]? = some t ∧ ReprIs prog w y t := by
        have g : ∀ {l : List Value} {ts : List Str}, ReprAll prog w l ts → ∀ (i : Nat) (y : Value), l[i]? = some y → ∃ t, ts[i]? = some t ∧ ReprIs prog w y t := by
          intro l ts hh
          induction hh with
          | nil => intro i y e; simp at e
          | cons hx _ ih =>
            intro i y e
            cases i with
            | zero => cases e; exact ⟨_, rfl, hx⟩
            | succ i => exact ih i y e
        intro i y e
        exact g hT i y (by rw [← e]; simp)
      refine codeAny_list_repr_start (P := s.heap.objs.size) (b := 0) (Nat.ne_of_lt (Heap.lt_size ha)) hlen hTi (Heap.get?_push_of_some _ ha) hd (Heap.get?_push_size _ rfl) (fun h' u tk hk => ?_) (by omega)
      exact h (listText ts) h' u tk (Nat.le_add_right _ _) fun b o e => hk b o (Nat.ne_of_lt (Heap.lt_size e)) (Heap.get?_push_of_some _ e)
theorem fmt_list {a : Addr} {o : Obj} {items : Array Value} {n : Nat} {ts : List Str} {Q : Value → Shared → Prop} (hu : A.units + 2 < cLine) (ha : s.heap.get? a = some o) (hc : o.cls = .type "list") (hd : o.data = .seq items n) (hT : ReprAll prog w items.toList ts) (hsz : (listText ts).length + 5 ≤ sizeLine)
    (h : ∀ (m : Str) (h' : Heap) (u tk : Tok), m.length ≤ (listText ts).length + 5 → (∀ b o, s.heap.get? b = some o → h'.get? b = some o) → Q (.str m u) { s with heap := h', toks := tk }) : wpAny (model prog w) A (formatField (.ref a) Str.empty) Q E s :=
  wpAny_formatField_slot (fun _ _ => nofun) hu ⟨o, ha, hc⟩ F.slot_list_format F.slot_list_str F.slot_list_repr.toG
    (fmt_list_repr (s := { s with toks := s.toks + 1 }) ha hc hd hT hsz fun m h' u tk hm hk => ⟨m, u, rfl, h m h' u tk hm hk⟩)
end
section
variable {X : Cx}
theorem repr_ints {prog : Program} {w : World} : ∀ {l : List Int} {its : List Value}, Vals (l.map V.int) its → (∀ y ∈ l, y.natAbs.log2 < 1920) → ReprAll prog w its (l.map fun i => Str.ofString (toString i))
  | [], _, r, _ => by
    cases r
    exact .nil
  | y :: l, _, r, h => by
    cases r with
    | cons r1 r2 =>
      obtain ⟨t, rfl⟩ := r1
      exact .cons (ReprIs.int t (h y List.mem_cons_self)) (repr_ints r2 fun z hz => h z (List.mem_cons_of_mem _ hz))
theorem textFrom_up : ∀ (ts : List Str) (k : Nat) (acc : Str), (∀ t ∈ ts, t.length ≤ 20) → (textFrom k acc ts).length ≤ acc.length + 22 * ts.length
  | [], _, acc, _ => by show acc.length ≤ acc.length + 22 * 0; omega
  | t :: r, k, acc, h => by
    have h1 := textFrom_up r (k + 1) (acc ++ (if k > 0 then ", " else "" : String) ++ t) fun u hu => h u (List.mem_cons_of_mem _ hu)
    have h2 := h t List.mem_cons_self
    have e : (acc ++ (if k > 0 then ", " else "" : String) ++ t).length ≤ acc.length + 2 + t.length := by
      rw [strLen_append, strLen_append]
      split
      · exact Nat.le_refl _
      · show acc.length + 0 + t.length ≤ _
        omega
    show (textFrom (k + 1) _ r).length ≤ acc.length + 22 * (r.length + 1)
    omega
/-- {l}, l a list of whole numbers: some text, no longer than so -/
def tFmtL (K : PySem.W.Frag) (te : TE) : TE := fun σ H Q => te σ H fun x H1 => ∃ (a : Addr) (l : List Int), x = .ref a ∧ SqL K H1 a (l.map V.int) ∧ (∀ y ∈ l, y.natAbs < 10 ^ 12) ∧ l.length ≤ 10000 ∧ ∀ m : Str, m.length ≤ 22 * l.length + 10 → Q (.str m) H1
theorem pe_fmtL {e : Expr} {te : TE} {pos : Pos} {k : Nat} (hr : Room k X.A) (he : PE X e te) : PE X (.FormattedValue e (-1) none pos) (tFmtL X.K te) := by
  refine ⟨fun pins s σ H Q I h => ?_⟩
  refine wpAny_FormattedValue_plain (thn (he.run pins s σ H _ I h) fun v s1 hv => ?_)
  obtain ⟨x, H1, I1, r1, a, l, rfl, hl, hb, few, q⟩ := hv
  cases r1
  obtain ⟨its, rv, ⟨o, n, ho, hcl, _, hd⟩, _⟩ := I1.list hl
  have hlog : ∀ y ∈ l, y.natAbs.log2 < 1920 := fun y hy => by
    by_cases h0 : y.natAbs = 0
    · rw [h0]
      decide
    · exact (Nat.log2_lt h0).mpr (Nat.lt_trans (hb y hy) (by decide))
  have htl : (listText (l.map fun i => Str.ofString (toString i))).length ≤ 22 * l.length + 5 := by
    have := textFrom_up (l.map fun i => Str.ofString (toString i)) 0 "[" fun t ht => by
      obtain ⟨y, hy, rfl⟩ := List.mem_map.mp ht
      exact Nat.le_trans (PyData.shown_int_le (hb y hy)) (by decide)
    rw [List.length_map] at this
    show (textFrom 0 "[" _ ++ "]").length ≤ _
    rw [strLen_append]
    have e1 : (("[" : String) : Str).length = 1 := rfl
    have e2 : (("]" : String) : Str).length = 1 := rfl
    rw [e2]
    rw [e1] at this
    omega
  have hz : 22 * l.length + 10 ≤ sizeLine := Nat.le_trans (Nat.add_le_add_right (Nat.mul_le_mul_left 22 few) 10) (by decide)
  have hu := hr.units
  refine fmt_list (ts := l.map fun i => Str.ofString (toString i)) (by omega) ho hcl hd (repr_ints (by simpa using rv) hlog) (by omega) fun m h' u tk hm hk => ⟨.str m, H1, I1.kept (t' := tk) hk, ⟨u, rfl⟩, q m (by omega)⟩
end
/-- an error's __init__: its field is the list -/
def spExcL (K : PySem.W.Frag) (fld : Str) : Sp := fun vs H Q _ => ∃ (a C l : Addr) (xs : List Int), vs = [.ref a, .ref l] ∧ OexC K C ∧ PySem.W.findIn K (.ref C) fld = some none ∧ H a = some (exo a C none) ∧ H l = some (.lst (xs.map V.int)) ∧ (∀ x ∈ xs, x.natAbs < 10 ^ 12) ∧ xs.length ≤ 10000 ∧
  ∀ dx, H dx = none → dx ≠ a → Q .non (upd (upd H dx (exd dx [(fld, .ref l)])) a (exo a C (some dx)))
theorem raisedL {K : PySem.W.Frag} {mg : Str → Option Value} {C fI l : Addr} {fd : FuncData} {x fld : Str} {xs : List Int} {H : Hp} {E : XK} (X : Exc K mg x C fI fd fld) (hl : H l = some (.lst (xs.map V.int))) (hb : ∀ x ∈ xs, x.natAbs < 10 ^ 12) (few : xs.length ≤ 10000)
    (q : ∀ d H', Same H H' → H' d = some (.xd [(fld, .ref l)]) → E (.ref C) (some d) H') : ∀ a, H a = none → spExcL K fld (.ref a :: ([.ref l] ++ [])) (upd H a (exo a C none))
      (fun v H2 => v = .non ∧ ∃ (d : Addr) (fs : List (Str × V)), H2 a = some (exo a C (some d)) ∧ H2 d = some (exd d fs) ∧ H d = none ∧ E (.ref C) (some d) (upd (del H2 a) d (.xd fs))) (fun _ _ _ => False) := by
  intro a na
  refine ⟨a, C, l, xs, rfl, X.oex, X.no, upd_same, ?_, hb, few, fun dx ndx ne => ?_⟩
  · rw [upd_ne (ne_of_none hl na)]
    exact hl
  have nd : H dx = none := by
    rw [upd_ne ne] at ndx
    exact ndx
  refine ⟨rfl, dx, _, upd_same, by rw [upd_ne ne, upd_same], nd, q dx _ (fun b o e => ?_) upd_same⟩
  have nba : b ≠ a := ne_of_none e na
  have nbd : b ≠ dx := ne_of_none e nd
  rw [upd_ne nbd, del_ne nba, upd_ne nba, upd_ne nbd, upd_ne nba]
  exact e
end V0
/-! try: body, several except C as n -/
namespace V0
open PySem PySem.Spec PyProof.Rows L2
/-- D with the name of the error unbound -/
def endsAs (i : Nat) (D : Ends) : Ends := { nx := fun σ' H' => D.nx (σ'.set i none) H', rt := D.rt, bk := fun σ' H' => D.bk (σ'.set i none) H', ct := fun σ' H' => D.ct (σ'.set i none) H' }
/-- the first handler that takes it -/
def wMas (K : PySem.W.Frag) (i : Nat) (Wout : WX) (D : Ends) : List (Value × (Addr → Value → Option Addr → TS)) → WX
  | [] => Wout
  | (c, ts) :: r => fun cls d σ H => ∃ b, PySem.W.exmOne K cls c = some b ∧ (b = true → ∀ a, H a = none → ts a cls d (endsAs i D) (σ.set i (some (.ref a))) H) ∧ (b = false → wMas K i Wout D r cls d σ H)
inductive HdsAs (X : Cx) (n : Str) : List ExceptHandler → List (Value × (Addr → Value → Option Addr → TS)) → Prop
  | nil : HdsAs X n [] []
  | cons {x : Str} {c : Value} {ts : Addr → Value → Option Addr → TS} {b₀ : Stmt} {suite : List Stmt} {np pos' : Pos} {hds : List ExceptHandler} {l : List (Value × (Addr → Value → Option Addr → TS))} (hc : Names X x c)
      (su : ∀ (a : Addr) (oe : Obj) (cls : Value) (d : Option Addr) (pn : List (Addr × Obj)), L2N.Zn cls d oe → (∃ vs, oe.data = .fields vs) → PSs (X.suite a ((a, oe) :: pn)) (b₀ :: suite) (ts a cls d)) (r : HdsAs X n hds l) :
      HdsAs X n (.ExceptHandler (some (.Name x np)) (some n) (b₀ :: suite) pos' :: hds) ((c, ts) :: l)
section
variable {X : Cx} {n : Str} {i : Nat} {body : List Stmt} {h₀ : ExceptHandler} {hds : List ExceptHandler} {l : List (Value × (Addr → Value → Option Addr → TS))} {pos : Pos} {tb : WX → TS} {Wout : WX}
theorem ps_try_mas (stk : X.stack = X.env :: X.outer) (frm : X.env.frame = some X.env.locals) (nd : X.N.Nodup) (at_ : X.N[i]? = some n) (kd : X.env.kindOf n = some .local) (tk : L2N.Takes X Wout)
    (run : ∀ (W : WX) (pn : List (Addr × Obj)) (xe : Value → Shared → Prop), L2N.Takes (X.tr pn xe) W → PassesOwn (model X.prog X.w) X.A X.env xe → PSs (X.tr pn xe) body (tb W))
    (all : HdsAs X n (h₀ :: hds) l) : PS X (.Try body (h₀ :: hds) [] [] pos) (fun D σ H => tb (wMas X.K i Wout D l) D σ H) := by
  refine ⟨fun pins s σ H D I told => ?_⟩
  have good := I.ok
  have frames : X.A.frames = some (X.env :: X.outer) := by rw [good.frames, stk]
  refine wpAny_Try_except (wpAny_mono ((run (wMas X.K i Wout D l) (X.pn ++ pins) (fun e s₁ => wpAny (model X.prog X.w) X.A (noteFrame e X.env) (fun _ s₂ => wpAny (model X.prog X.w) X.A (setFlight e none) (fun _ s₃ =>
    wpAny (model X.prog X.w) X.A (handleBy e X.env (h₀ :: hds)) (SP X pins D) X.xe s₃) X.xe s₂) X.xe s₁) (fun u s' air => ?_) PassesOwn.looking).run [] s σ H D (I.toTry _) told) (fun f s1 fin => ?_) (fun e s1 he => he))
  · obtain ⟨a, B, sI, pins', σ', H', cls, d, rfl, J', nb, up, sky, na, os, ag, w⟩ := air
    have J : Inv X pins σ' H' sI := J'.ofTry good
    show wpAny (model X.prog X.w) X.A (noteFrame (.ref a) X.env) _ _ _
    refine L2N.Sky.land L2N.Zn.steady frames frm (show Sky B (X.env :: X.outer) a (L2N.Zn cls d) X.env.locals s'.heap by rw [← stk]; exact sky) fun h3 fl3 up3 => ?_
    have J3 : Inv X pins σ' H' { s' with heap := h3 } := J.landed nb fl3.1 (up.trans up3) os ag
    obtain ⟨o3, v3, there, z3, data3⟩ := fl3.there
    have apart : a ∉ frs (X.env :: X.outer) := fun hm => by
      obtain ⟨_, o', e', hnf⟩ := fl3.2.2.1.mem hm
      rw [there] at e'
      cases e'
      exact hnf _ data3
    have n1 : a ≠ X.env.locals := fun z => apart (List.mem_filterMap.mpr ⟨X.env, List.mem_cons_self, by rw [frm, z]⟩)
    have n2 : a ∉ X.fs := fun hm => by
      obtain ⟨e, he, q⟩ := List.mem_filterMap.mp hm
      exact apart (List.mem_filterMap.mpr ⟨e, List.mem_cons_of_mem _ he, q⟩)
    have S3 := J3.suite there data3 na n1 n2
    have each : ∀ {hs' : List ExceptHandler} {l' : List (Value × (Addr → Value → Option Addr → TS))}, HdsAs X n hs' l' → wMas X.K i Wout D l' cls d σ' H' →
        wpAny (model X.prog X.w) X.A (handleBy (.ref a) X.env hs') (SP X pins D) X.xe { s' with heap := h3 } := by
      intro hs' l' hk
      induction hk with
      | nil =>
        intro w
        refine wpAny_handleBy_nil ?_
        obtain ⟨_, _, _, oe, vs, T, _, _, he, hz, hd, h1, _⟩ := id fl3
        unfold PySem.passOn
        refine wpAny_bind (wpAny_field he hd h1 ?_)
        rw [if_neg (show ¬ ((Value.ref T == Value.none) = true) from by simp)]
        have last : wpAny (model X.prog X.w) X.A (setFlight (.ref a) X.env.frame) (fun _ s4 => wpAny (model X.prog X.w) X.A (throw (.ref a) : Sem Flow) (SP X pins D) X.xe s4) X.xe { s' with heap := h3 } := by
          rw [frm]
          exact HandSPX.setFlight_upZ fl3 fun h4 hh4 up4 => wpAny_throw (tk _ _ ⟨a, B, sI, pins, σ', H', cls, d, rfl, J, nb, (up.trans up3).trans up4, .inr (.inr (by rw [stk]; exact hh4)), na, os, ag, w⟩)
        first
          | exact wpAny_bind (wpAny_pure (wpAny_bind last))
          | exact wpAny_bind last
      | @cons x c ts b₀ suite np pos' hs2 l2 hc su r ih =>
        intro w
        obtain ⟨b, eb, yes, no⟩ := w
        refine wpAny_handleBy_cons (codeAny_handlers_test ?_) (by intro q; cases q)
        have kind := PySem.W.exm_one (M := model X.prog X.w) (J3.kIn) (fun A Q E s k q => wpAny_typeOf_ref (k _ _ there) (by rw [z3.1]; exact q)) eb
        have asked : ∀ {Q : Value → Shared → Prop} {E : Value → Shared → Prop}, Q c { s' with heap := h3 } → wpAny (model X.prog X.w) (X.A.mark (some (.ref a))) (eval (.Name x np) X.env) Q E { s' with heap := h3 } := fun {Q E} q => by
          obtain ⟨hg, hdbg, hm | ⟨hm, hv, hnn⟩⟩ := hc
          · exact ld_glob (X := X.suite a ((a, o3) :: (X.pn ++ pins))) S3 hg hm q hdbg
          · exact ld_blt (X := X.suite a ((a, o3) :: (X.pn ++ pins))) S3 hg hm hv q hnn hdbg
        refine asked (kind.here ?_)
        cases b with
        | false => exact ih (no rfl)
        | true =>
          refine codeAny_handlers_suite_as (HandSPX.lands_againZ fl3 fun h4 fl4 up4 => ?_)
          have J4 : Inv X pins σ' H' { s' with heap := h4 } := J.landed nb fl4.1 ((up.trans up3).trans up4) os ag
          obtain ⟨o4, v4, there4, z4, data4⟩ := fl4.there
          refine store_ok (X := X.suite a ((a, o4) :: (X.pn ++ pins))) (v := .ref a) (J4.suite there4 data4 na n1 n2) nd at_ (.inl kd) rfl (fun s5 S5 => ?_) (.inr kd)
          refine wpAny_mono ((su a o4 cls d (X.pn ++ pins) z4 ⟨_, data4⟩).run [] s5 _ H' _ S5 (yes rfl a na)) (fun f s6 fin => ?_) (fun _ _ z => False.elim z)
          have ended : ∀ {σ6 : L2.St} {H6 : Hp} {Q : Shared → Prop}, Inv (X.suite a ((a, o4) :: (X.pn ++ pins))) [] σ6 H6 s6 → (∀ s7, Inv X pins (σ6.set i none) H6 s7 → Q s7) →
              wpAny (model X.prog X.w) X.A (do bindName X.env n .none; unbindBehindTheSuite X.env n pos') (fun _ s7 => Q s7) X.xe s6 := fun {σ6 H6 Q} S6 hq => gone_ok (S6.unsuite good) nd at_ kd hq
          match f, fin with
          | .next, ⟨_, _, S6, q6⟩ => exact ended S6 fun s7 J7 => ⟨_, _, J7, q6⟩
          | .brk, ⟨_, _, S6, q6⟩ => exact ended S6 fun s7 J7 => ⟨_, _, J7, q6⟩
          | .cont, ⟨_, _, S6, q6⟩ => exact ended S6 fun s7 J7 => ⟨_, _, J7, q6⟩
          | .ret u, ⟨_, _, _, S6, r6, q6⟩ => exact ended S6 fun s7 J7 => ⟨_, _, _, J7, r6, q6⟩
    exact each all w
  · match f, fin with
    | .next, ⟨σ', H', J', q⟩ => exact wpAny_execs_nil ⟨σ', H', J'.ofTry good, q⟩
    | .brk, ⟨σ', H', J', q⟩ => exact ⟨σ', H', J'.ofTry good, q⟩
    | .cont, ⟨σ', H', J', q⟩ => exact ⟨σ', H', J'.ofTry good, q⟩
    | .ret u, ⟨v, σ', H', J', r, q⟩ => exact ⟨v, σ', H', J'.ofTry good, r, q⟩
end
end V0
/-! list comprehensions while an exception is handled: the block's context keeps the exception pinned -/
namespace V0
open PySem PySem.Spec PyProof.Rows L2 L2H HotX
/-- the block's context, with what is pinned outside -/
abbrev blkH (X : Cx) (s : Shared) (H : Hp) (scope : Scope) (cenv : Env) (fp : List Addr) : Cx := { X.blk s H scope cenv fp with pn := X.pn }
section
variable {X : Cx} {pins : List (Addr × Obj)} {σ : L2.St} {H : Hp} {s : Shared}
theorem blk_startH {scope : Scope} {own : List (Str × Nat)} {fp : List Addr} (I : Inv X pins σ H s) (ok : BlkOk X.N X.env.scope scope own) (hN : X.N.Nodup) (hfp : ∀ b ∈ fp, FpOk X pins H b ∧ b < s.heap.objs.size) :
    Inv (blkH X s H scope (compEnvC scope (cellsFrom (s.heap.objs.size + 1) scope.names (cloFrom X.env.cells scope.names [])) s.heap.objs.size X.env) fp) [] (wipe σ (own.map (·.2))) H { s with heap := pushCells (s.heap.push { cls := .type "dict", data := .dict #[] }) scope.names } := by
  have J := block_start I ok hN hfp
  have o := J.ok
  refine ⟨⟨o.mod, o.kind, o.glob, o.blt, o.above, o.inj, o.has, o.cab, o.hd, o.frames, o.stk, o.exf, o.bs, o.bsz, o.noex, o.exfs, o.funs, o.frf⟩, J.os, J.bare, J.base, J.loc, J.cell, J.free, J.freeC, fun p hp => ?_, J.hok, J.len⟩
  have hp' : p ∈ X.pn := by simpa using (show p ∈ X.pn ++ ([] : List (Addr × Obj)) from hp)
  obtain ⟨h1, h2, h3, h4, h5⟩ := I.pin p (List.mem_append_left _ hp')
  refine ⟨pushCells_keeps _ _ _ _ (Heap.get?_push_of_some _ h1), h2, Nat.ne_of_lt (Heap.lt_size h1), fun z => ?_, h5⟩
  rcases List.mem_cons.mp (I.stkSub p.1 z) with z | z
  · exact h3 z
  · exact h4 z
theorem lc_coreH {Q : VK} {elt tg iter : Expr} {ifs : List Expr} {scope : Scope} {own : List (Str × Nat)} {pos pos' : Pos} {wi : TI} {g : TG} {tt : TT} {te : TE} {use : Option (Value → Sem Unit)} {Qf : Value → Shared → Prop}
    (hc : HotC X) (hN : X.N.Nodup) (I : Inv X pins σ H s) (hi : PIH X tg iter wi) (ok : BlkOk X.N X.env.scope scope own)
    (hg : ∀ (s : Shared) (H : Hp) (C : Addr) (cl : List (Str × Addr)) (fp : List Addr), PG (blkH X s H scope (compEnvC scope cl C X.env) fp) tg g) (ht : ∀ (s : Shared) (H : Hp) (C : Addr) (cl : List (Str × Addr)) (fp : List Addr), PTs (blkH X s H scope (compEnvC scope cl C X.env) fp) ifs tt)
    (he : ∀ (s : Shared) (H : Hp) (C : Addr) (cl : List (Str × Addr)) (fp : List Addr), PE (blkH X s H scope (compEnvC scope cl C X.env) fp) elt te) (hs : ∀ x, foldedSetIterable iter X.env x = pure x)
    (h : tLc wi g tt te (own.map (·.2)) σ H Q)
    (hRR : ∀ D C s' m H', Inv X pins σ H' s' → Q (.ref D) H' → s'.heap.Ns C m → FpOk X pins H' C → compPost (model X.prog X.w) X.A X.xe use Qf (.ref D) C (.ok .next) s') :
    wpAny (model X.prog X.w) X.A (comprehension (.ListComp elt [⟨tg, iter, ifs, 0⟩] scope pos) scope X.env pos' (newList []) false (eval iter X.env) use) Qf X.xe s := by
  have free : ∀ y ∈ scope.names, y.2 = .free → ∃ c, X.env.cells.lookup y.1 = some c := fun y hy e => I.ok.has _ (ok.free y hy e)
  refine wpAny_comprehension_free (use := use) rfl hs (closure_ok free) ok.kind (fun y hy e => by rw [ok.uniq y hy, e])
    (thn (hi.run pins s σ H _ I h) fun xv s1 hx => thn hx fun itv s2 ⟨it, fp, tn, J, H2, e, I2, T, st2, f2, q⟩ => ?_)
  subst e
  refine wpAny_newObj_type (newEnv_comp ?_) (by show 0 ≤ sizeLine; decide)
  obtain ⟨W, ⟨m0, w0⟩, turn⟩ := q s2.heap.objs.size (I2.hok.fresh (Nat.le_refl _))
  generalize hD : s2.heap.objs.size = D at w0 turn ⊢
  have keep2 : ∀ b o, s2.heap.get? b = some o → (s2.heap.push { cls := .type "list", data := .seq ([] : List Value).toArray }).get? b = some o := fun b o e => Heap.get?_push_of_some _ e
  have atD : (s2.heap.push { cls := .type "list", data := .seq ([] : List Value).toArray }).get? D = some { cls := .type "list", data := .seq ([] : List Value).toArray } := by
    rw [← hD]
    exact Heap.get?_push_size _ rfl
  have grow : (s2.heap.push { cls := .type "list", data := .seq ([] : List Value).toArray }).objs.size = D + 1 := by rw [Heap.size_push, hD]
  have I3 : Inv X pins σ (upd H2 D (.lst [])) { s2 with heap := s2.heap.push { cls := .type "list", data := .seq ([] : List Value).toArray } } :=
    I2.laid (t' := s2.toks) keep2 (Nat.le_of_eq hD) ⟨Nat.zero_le _, [], 0, .nil, atD⟩
  have low : ∀ b ∈ fp, b < D := fun b hb => by
    obtain ⟨o, e, _⟩ := T.obj _ _ st2 b hb
    rw [← hD]
    exact Heap.lt_size e
  have f3 : ∀ b ∈ fp, FpOk X pins (upd H2 D (.lst [])) b := fun b hb => ⟨(upd_ne (Nat.ne_of_lt (low b hb))).trans (f2 b hb).1, (f2 b hb).2⟩
  have st3 := T.keep _ _ _ st2 fun b _ o e => keep2 b o e
  generalize (upd H2 D (.lst [])) = H3 at I3 f3 w0
  generalize hs3 : ({ s2 with heap := s2.heap.push { cls := .type "list", data := .seq ([] : List Value).toArray } } : Shared) = s3 at I3 ⊢
  have h3 : s3.heap = s2.heap.push { cls := .type "list", data := .seq ([] : List Value).toArray } := by rw [← hs3]
  rw [← h3] at st3 grow
  have I4 := blk_startH I3 ok hN fun b hb => ⟨f3 b hb, by rw [grow]; exact Nat.lt_succ_of_lt (low b hb)⟩
  have pg := hg s3 H3 s3.heap.objs.size (cellsFrom (s3.heap.objs.size + 1) scope.names (cloFrom X.env.cells scope.names [])) fp
  have pt := ht s3 H3 s3.heap.objs.size (cellsFrom (s3.heap.objs.size + 1) scope.names (cloFrom X.env.cells scope.names [])) fp
  have pe := he s3 H3 s3.heap.objs.size (cellsFrom (s3.heap.objs.size + 1) scope.names (cloFrom X.env.cells scope.names [])) fp
  show codeAny _ _ (.compStart (.ListComp elt [⟨tg, iter, ifs, 0⟩] scope pos) 0 (.ref it) (.ref D) (compEnvC scope (cellsFrom (s3.heap.objs.size + 1) scope.names (cloFrom X.env.cells scope.names [])) s3.heap.objs.size X.env)) (compPost (model X.prog X.w) X.A X.xe use Qf (.ref D) s3.heap.objs.size) { s3 with heap := pushCells (s3.heap.push { cls := .type "dict", data := .dict #[] }) scope.names }
  have hcB : HotC (blkH X s3 H3 scope (compEnvC scope (cellsFrom (s3.heap.objs.size + 1) scope.names (cloFrom X.env.cells scope.names [])) s3.heap.objs.size X.env) fp) := hc
  generalize hce : compEnvC scope (cellsFrom (s3.heap.objs.size + 1) scope.names (cloFrom X.env.cells scope.names [])) s3.heap.objs.size X.env = ce at I4 pg pt pe hcB ⊢
  have cL : ce.locals = s3.heap.objs.size := by rw [← hce]; rfl
  have st4 : tn 0 (pushCells (s3.heap.push { cls := .type "dict", data := .dict #[] }) scope.names) := T.keep _ _ _ st3 fun b _ o e => pushCells_keeps _ _ _ _ (Heap.get?_push_of_some _ e)
  -- what stays true of the iterator's objects within the block
  have stat : ∀ {σ' : L2.St} {H' : Hp} {s' : Shared}, Inv (blkH X s3 H3 scope ce fp) [] σ' H' s' → (∀ b ∈ fp, H' b = none) → ∀ b ∈ fp, FpOk (blkH X s3 H3 scope ce fp) [] H' b := fun {σ' H' s'} I' hn b hb =>
    ⟨hn b hb, (I'.ok.exf b hb).1, I'.ok.exfs b hb, .inl hb, fun x c e => (I'.ok.exf b hb).2 x c e, fun p hp =>
      have hp' : p ∈ X.pn := by simpa using (show p ∈ X.pn ++ ([] : List (Addr × Obj)) from hp)
      (f3 b hb).2.2.2.2.2 p (List.mem_append_left _ hp')⟩
  have st4' : tn 0 ({ s3 with heap := pushCells (s3.heap.push { cls := .type "dict", data := .dict #[] }) scope.names } : Shared).heap := st4
  generalize ({ s3 with heap := pushCells (s3.heap.push { cls := .type "dict", data := .dict #[] }) scope.names } : Shared) = s4 at I4 st4' ⊢
  have loop : codeAny (model X.prog X.w) X.A (.compLoop (.ListComp elt [⟨tg, iter, ifs, 0⟩] scope pos) 0 (.ref it) (.ref D) ce) (compPost (model X.prog X.w) X.A X.xe use Qf (.ref D) s3.heap.objs.size) s4 := by
    refine compLoop_any (fun n s' => ∃ i H', Inv (blkH X s3 H3 scope ce fp) [] (wipe σ (own.map (·.2))) H' s' ∧ tn i s'.heap ∧ (∀ b ∈ fp, H' b = none) ∧ W i n H') ?_ m0 ⟨0, H3, I4, st4', fun b hb => (f3 b hb).1, w0⟩
    rintro n s5 ⟨i, H5, I5, st5, n5, w5⟩
    rcases turn i n H5 w5 with ⟨stop, qq⟩ | ⟨go, Nx, hNx, step⟩
    · refine thnF (T.done (blkH X s3 H3 scope ce fp) rfl rfl rfl hcB i [] s5 _ H5 (fun _ _ => False) I5 (stat I5 n5) st5 stop) fun r s6 ⟨hr, I6⟩ => ?_
      subst hr
      have nC : H5 s3.heap.objs.size = none := cL ▸ I6.free
      obtain ⟨m, hn, _⟩ := I6.loc
      have hn : s6.heap.Ns ce.locals m := hn
      exact hRR D s3.heap.objs.size s6 m H5 (I3.call' (ch := fp) I6.os I6.base I6.hok I6.bare fun b hb => ⟨(f3 b hb).2.2.2.1, (f3 b hb).2.1, (f3 b hb).2.2.2.2.1, (f3 b hb).2.2.2.2.2⟩) qq (cL ▸ hn) (I3.fpOk (Nat.le_refl _) nC)
    · refine thnF (T.item (blkH X s3 H3 scope ce fp) rfl rfl rfl hcB i [] s5 _ H5 (fun _ _ => False) I5 (stat I5 n5) st5 go) fun r s6 ⟨u, hr, h6⟩ => ?_
      subst hr
      refine thnF h6 fun _ s7 ⟨x, H7, I7, r7, y7, st7, n7⟩ => ?_
      refine thnF (pg.run _ s7 _ H7 x u _ (I7.pinned (stat I7 n7) (T.obj _ _ st7)) r7 (step x H7 y7)) fun _ s8 ⟨σ8, H8, I8, hw8, q8⟩ => ?_
      refine thnF (pt.run _ s8 σ8 H8 _ I8 q8) fun b s9 ⟨H9, I9, q9⟩ => ?_
      have again : ∀ {s' : Shared} {H' : Hp}, Inv (blkH X s3 H3 scope ce fp) ([] ++ pinsAt fp s7.heap) σ8 H' s' → Nx H' → ∃ m, m < n ∧ ∃ i H', Inv (blkH X s3 H3 scope ce fp) [] (wipe σ (own.map (·.2))) H' s' ∧ tn i s'.heap ∧ (∀ b ∈ fp, H' b = none) ∧ W i m H' := fun {s' H'} I' nx => by
        obtain ⟨m', hm, w'⟩ := hNx H' nx
        have held : ∀ b ∈ fp, ∀ o, s7.heap.get? b = some o → s'.heap.get? b = some o ∧ H' b = none := fun b hb o e =>
          let z := I'.pin (b, o) (List.mem_append_right _ (List.mem_append_right _ (mem_pinsAt hb e)))
          ⟨z.1, z.2.1⟩
        refine ⟨m', hm, i + 1, H', (I'.unpinned (pins := [])).weak (by rw [← hw8, wipe_length]) (fun j v e => ?_), T.keep _ _ _ st7 fun b hb o e => (held b hb o e).1, fun b hb => ?_, w'⟩
        · rw [← hw8] at e
          exact (wipe_some e).1
        · obtain ⟨o, e, _⟩ := T.obj _ _ st7 b hb
          exact (held b hb o e).2
      cases b with
      | false => exact again I9 q9
      | true => exact thnF (pe.run _ s9 σ8 H9 _ I9 q9) fun z s10 ⟨yv, H10, I10, r10, acc, hD10, hz10, nx⟩ => app_ok (X := blkH X s3 H3 scope ce fp) I10 hD10 hz10 r10 fun s11 I11 => again I11 nx
  exact codeAny_compStart_list loop (T.self X.A 0 _ _ _ st4' loop)
/-- as a value -/
theorem pe_lcH {elt tg iter : Expr} {ifs : List Expr} {scope : Scope} {own : List (Str × Nat)} {pos : Pos} {wi : TI} {g : TG} {tt : TT} {te : TE} (hc : HotC X) (hN : X.N.Nodup) (hi : PIH X tg iter wi) (ok : BlkOk X.N X.env.scope scope own)
    (hg : ∀ (s : Shared) (H : Hp) (C : Addr) (cl : List (Str × Addr)) (fp : List Addr), PG (blkH X s H scope (compEnvC scope cl C X.env) fp) tg g) (ht : ∀ (s : Shared) (H : Hp) (C : Addr) (cl : List (Str × Addr)) (fp : List Addr), PTs (blkH X s H scope (compEnvC scope cl C X.env) fp) ifs tt)
    (he : ∀ (s : Shared) (H : Hp) (C : Addr) (cl : List (Str × Addr)) (fp : List Addr), PE (blkH X s H scope (compEnvC scope cl C X.env) fp) elt te) (hs : ∀ x, foldedSetIterable iter X.env x = pure x := by intro _; rfl) :
    PE X (.ListComp elt [⟨tg, iter, ifs, 0⟩] scope pos) (tLc wi g tt te (own.map (·.2))) := by
  refine ⟨fun pins s σ H Q I h => ?_⟩
  rw [eval_ListComp]
  refine lc_coreH hc hN I hi ok hg ht he hs h fun D C s' m H' I' q hn f => ⟨m, hn, fun h'' sb => ?_⟩
  obtain ⟨f0, f1, f2, f3, f4, f5⟩ := f
  exact ⟨.ref D, H', I'.turned (t' := s'.toks) (fun b o hb e => (sb.2 b hb).trans e) f0 f1 f3 f4 f5, rfl, q⟩
/-- name = [..] on one line -/
theorem ps_setLcH {i : Nat} {y : Str} {py : Pos} {elt tg iter : Expr} {ifs : List Expr} {scope : Scope} {own : List (Str × Nat)} {pos spos : Pos} {wi : TI} {g : TG} {tt : TT} {te : TE} (hc : HotC X) (hN : X.N.Nodup) (hy : X.N[i]? = some y) (hyl : X.env.scope.names.lookup y = some .local)
    (hsw : swapsWith (.ListComp elt [⟨tg, iter, ifs, 0⟩] scope pos) (some (.Name y py)) spos.line X.env = pure true) (hi : PIH X tg iter wi) (ok : BlkOk X.N X.env.scope scope own)
    (hg : ∀ (s : Shared) (H : Hp) (C : Addr) (cl : List (Str × Addr)) (fp : List Addr), PG (blkH X s H scope (compEnvC scope cl C X.env) fp) tg g) (ht : ∀ (s : Shared) (H : Hp) (C : Addr) (cl : List (Str × Addr)) (fp : List Addr), PTs (blkH X s H scope (compEnvC scope cl C X.env) fp) ifs tt)
    (he : ∀ (s : Shared) (H : Hp) (C : Addr) (cl : List (Str × Addr)) (fp : List Addr), PE (blkH X s H scope (compEnvC scope cl C X.env) fp) elt te) (hs : ∀ x, foldedSetIterable iter X.env x = pure x := by intro _; rfl) :
    PS X (.Assign [.Name y py] (.ListComp elt [⟨tg, iter, ifs, 0⟩] scope pos) spos) (tAsg (tLc wi g tt te (own.map (·.2))) (gName i)) := by
  refine ⟨fun pins s σ H D I h => ?_⟩
  rw [exec_Assign_Name_used _ _ _ _ hsw]
  refine wpAny_bind (wpAny_standAt (wpAny_bind ?_))
  show wpAny _ X.A (do let _ ← comprehension (.ListComp elt [⟨tg, iter, ifs, 0⟩] scope pos) scope X.env (firstIterPos [⟨tg, iter, ifs, 0⟩] pos) (newList []) false (eval iter X.env) (some (assign (.Name y py) X.env))) _ _ s
  have h : tLc wi g tt te (own.map (·.2)) σ H (fun x H1 => gName i x σ H1 D.nx) := h
  refine wpAny_bind (thn (lc_coreH (Qf := fun _ s' => SP X pins D .next s') hc hN I hi ok hg ht he hs h fun L C s' m H' I' q hn f => ?_) fun _ s' hq => wpAny_pure (wpAny_pure hq))
  show wpAny _ _ (assign (.Name y py) X.env (.ref L)) _ _ _
  refine wpAny_assign_Name (store_ok2 (v := V.ref L) I' hN hy (.inl hyl) rfl (fun s2 I2 ⟨a, sb, ha⟩ => ?_) (.inr hyl))
  obtain ⟨f0, f1, f2, f3, f4, f5⟩ := f
  have haC : C ≠ a := by
    rcases ha with z | z
    · rw [z]; exact f1
    · exact fun e => f4 y a z e.symm
  exact ⟨m, hn.sameBut sb haC, fun h3 sb3 => ⟨_, H', I2.turned (t' := s2.toks) (fun b o hb e => (sb3.2 b hb).trans e) f0 f1 f3 f4 f5, q⟩⟩
end
end V0
/-! set(a list of ints) and sorted(a set of ints) while an exception is handled -/
namespace V0
open PySem PySem.Spec PyProof.Rows L2 L2H HotX
/-- the handled exception's object, its context None -/
def HotO (x1 : Addr) (h : Heap) : Prop := ∃ (o : Obj) (vs : Array Value), h.get? x1 = some o ∧ o.data = .fields vs ∧ vs[2]? = some .none
theorem HotO.at {x1 : Addr} {h h' : Heap} (c : HotO x1 h) (k : ∀ o, h.get? x1 = some o → h'.get? x1 = some o) : HotO x1 h' :=
  let ⟨o, vs, g, r⟩ := c
  ⟨o, vs, k o g, r⟩
theorem HotO.lt {x1 : Addr} {h : Heap} (c : HotO x1 h) : x1 < h.objs.size := let ⟨_, _, g, _⟩ := c; Heap.lt_size g
theorem HotO.ne {x1 it : Addr} {h : Heap} (c : HotO x1 h) {o : Obj} {vs : Array Value} {a : Addr} (g : h.get? it = some o) (d : o.data = .fields vs) (z : vs[2]? = some (.ref a)) : x1 ≠ it := fun e => by
  obtain ⟨o1, vs1, g1, d1, c1⟩ := c
  rw [e, g] at g1
  cases g1
  rw [d] at d1
  cases d1
  rw [z] at c1
  cases c1
theorem walks_listH {P : Program} {w : World} {A : Around} {I ax x1 : Addr} (hh : A.handled = some (.ref x1)) (hne : ax ≠ I) (hx : x1 ≠ I) (items : Array Value) :
    Walks P w A I [I, ax, x1] [I] items.size (fun i v => items[i]? = some v) (fun i h => h.IsListIter I ax i ∧ h.IsList ax items ∧ HotO x1 h) where
  sub := fun b hb => by simp at hb; simp [hb]
  frame := fun _ _ _ st hk => ⟨st.1.at fun o e => hk I (by simp) o e, st.2.1.at fun o e => hk ax (by simp) o e, st.2.2.at fun o e => hk x1 (by simp) o e⟩
  item := fun i s Q E hi st hQ => by
    refine wpAny_pyNext_list_item st.1 st.2.1 (x := items[i]) (by simp [hi]) fun h' on sb => ?_
    exact hQ _ h' s.toks (by simp [hi]) ⟨on, st.2.1.extBut sb.extBut hne, st.2.2.at fun o e => sb.extBut x1 o hx e⟩ fun b o hb e => sb.extBut b o (fun h => hb (by simp [h])) e
  done := fun s Q E st hQ => listIter_end_hot ⟨hh, st.2.2⟩ st.1 st.2.1 (by simp) fun h' off => hQ h' s.toks fun b o hb e => off b o (fun h => hb (by simp [h])) e
  self := fun _ _ _ _ st hQ => wpAny_pyIter_listiter st.1 hQ
section
variable {P : Program} {w : World} {A : Around} {E : Value → Shared → Prop} {s : Shared} {a it x1 : Addr} {es : Array (Int × Value)} {ep : Nat} {t : SetTable} {i sl : Nat}
/-- StopIteration raised and met by next -/
theorem stop_atH {h0 : Heap} {Q : Option Value → Shared → Prop} (hh : A.handled = some (.ref x1)) (hot : HotO x1 h0) (hk : ∀ b o, b ≠ it → s.heap.get? b = some o → h0.get? b = some o)
    (hQ : ∀ h', Heap.ExtBut it s.heap h' → Q none { s with heap := h' }) :
    wpAny (model P w) A.in1 (newExc (.type "StopIteration") [] >>= fun e => (raiseNew e : Sem Fin)) (fun _ _ => False)
      (fun e s' => wpAny (model P w) A (do if ← isInstance e (.type "StopIteration") then pure none else throw e) Q E s') { s with heap := h0 } := by
  obtain ⟨o1, vs1, g1, d1, c1⟩ := hot
  have two := Heap.get?_push_of_some { cls := .type "tuple", data := .seq #[] } g1
  refine wpAny_bind ?_
  simp only [newExc, newTuple]
  refine wpAny_bind (wpAny_newObj_type ?_ (by size_fits))
  refine wpAny_bind (m := firstArgMember _ _) (wpAny_of_eq (a := Value.none) (by first | rfl | (simp only [firstArgMember]; rfl)) ?_)
  refine wpAny_newObj_type ?_ (by size_fits)
  refine raiseNew_hot (A := A.in1) ⟨hh, o1, vs1, Heap.get?_push_of_some _ two, d1, c1⟩ (Nat.ne_of_lt (Heap.lt_size two)) (Heap.get?_push_size _ rfl) rfl (by first | (simp; done) | (simp; omega) | (simp only [Array.size_append]; simp; omega)) ?_
  refine wpAny_bind (wpAny_isInstance (T := "StopIteration") (b := true) ⟨_, Heap.get?_update_self _ (Heap.get?_push_size _ rfl) rfl, rfl⟩ isSubtype_stop ?_)
  refine wpAny_pure (hQ _ fun b o hb e => ?_)
  have e2 := Heap.get?_push_of_some { cls := .type "tuple", data := .seq #[] } (hk b o hb e)
  exact (Heap.get?_update_other _ _ (Nat.ne_of_gt (Heap.lt_size e2))).trans (Heap.get?_push_of_some _ e2)
theorem next_endH {Q : Option Value → Shared → Prop} (hh : A.handled = some (.ref x1)) (hot : HotO x1 s.heap) (hit : IsSI s.heap it (.int (sl : Int) 0) i a es.size ep) (ha : SetAt s.heap a es ep t) (hf : t.fits es.size = true)
    (hN : ∀ (A' : Around) (E' : Value → Shared → Prop) (Q' : Option (Value × Nat) → Shared → Prop), Q' none s → wpAny (model P w) A' (setNext a sl i ep) Q' E' s)
    (hQ : ∀ h', Heap.ExtBut it s.heap h' → Q none { s with heap := h' }) : wpAny (model P w) A (pyNext (.ref it)) Q E s := by
  obtain ⟨o, ho, hc, hd⟩ := id hit
  obtain ⟨oa, hoa, _, hda⟩ := id ha
  have apart := hot.ne ho hd (a := a) rfl
  unfold pyNext
  refine wpAny_bind (wpAny_attempt (wpAny_callSpecial?_slot (name := Str.ofString "__next__") hit.typeIs slot_si_next (wpAny_call_entry slot_si_next hit.typeIs entry_si_next ?_ (args_si_next _))))
  unfold Builtin.«set_iterator.__next__»
  refine wpAny_bind (m := slotArgs "__next__" 0 _) (wpAny_pure ?_)
  refine wpAny_bind (wpAny_fieldsOf ho hd ?_)
  show wpAny _ _ (setEntries a >>= _) _ _ s
  refine wpAny_bind (wpAny_setEntries_of hoa hda hf ?_)
  refine wp_if_neg (by simp) ?_
  try refine wpAny_bind (wpAny_pure ?_)
  show wpAny _ _ (setNext a sl i ep >>= _) _ _ s
  refine wpAny_bind (hN _ _ _ ?_)
  show wpAny _ _ (setField (.ref it) 2 .none >>= _) _ _ s
  refine wpAny_bind (wpAny_setField ho hd (by simp) ?_)
  have other : ∀ b u, b ≠ it → s.heap.get? b = some u → (s.heap.update it (Obj.mapFields (·.setIfInBounds 2 Value.none))).get? b = some u := fun b u hb e => (Heap.get?_update_other _ _ (Ne.symm hb)).trans e
  exact wpAny_mono (stop_atH (s := s) (it := it) (Q := Q) (E := E) hh (hot.at fun u e => other _ u apart e) other hQ) (fun _ _ z => z.elim) fun e s' z => z
theorem next_drawn_endH {p : Addr} {ys : List Nat} {Q : Option Value → Shared → Prop} (hh : A.handled = some (.ref x1)) (hot : HotO x1 s.heap) (hit : IsSI s.heap it (.ref p) i a es.size ep) (ha : SetAt s.heap a es ep t) (hf : t.fits es.size = true)
    (hp : s.heap.get? p = some { cls := .type "tuple", data := .seq (ys.map fun (k : Nat) => rawInt (k : Int)).toArray }) (hj : ys[i]? = none)
    (hQ : ∀ h', Heap.ExtBut it s.heap h' → Q none { s with heap := h' }) : wpAny (model P w) A (pyNext (.ref it)) Q E s := by
  obtain ⟨o, ho, hc, hd⟩ := id hit
  obtain ⟨oa, hoa, _, hda⟩ := id ha
  have apart := hot.ne ho hd (a := a) rfl
  unfold pyNext
  refine wpAny_bind (wpAny_attempt (wpAny_callSpecial?_slot (name := Str.ofString "__next__") hit.typeIs slot_si_next (wpAny_call_entry slot_si_next hit.typeIs entry_si_next ?_ (args_si_next _))))
  unfold Builtin.«set_iterator.__next__»
  refine wpAny_bind (m := slotArgs "__next__" 0 _) (wpAny_pure ?_)
  refine wpAny_bind (wpAny_fieldsOf ho hd ?_)
  show wpAny _ _ (setEntries a >>= _) _ _ s
  refine wpAny_bind (wpAny_setEntries_of hoa hda hf ?_)
  refine wp_if_neg (by simp) ?_
  try refine wpAny_bind (wpAny_pure ?_)
  show wpAny _ _ (seqItems? (.ref p) >>= _) _ _ s
  refine wpAny_bind (wpAny_seqItems hp rfl ?_)
  have over : (ys.map fun (k : Nat) => rawInt (k : Int)).toArray[(Int.toNat (i : Int))]? = none := by simp [hj]
  dsimp only
  rw [over]
  show wpAny _ _ (setField (.ref it) 0 (rawInt 0) >>= _) _ _ s
  refine wpAny_bind (wpAny_setField ho hd (by simp) ?_)
  have ho1 := Heap.get?_update_self (Obj.mapFields (·.setIfInBounds 0 (rawInt 0))) ho (Obj.isFreed_of_fields (Obj.data_mapFields hd _))
  have hd1 := Obj.data_mapFields hd (·.setIfInBounds 0 (rawInt 0))
  show wpAny _ _ (setField (.ref it) 2 .none >>= _) _ _ _
  refine wpAny_bind (wpAny_setField ho1 hd1 (by simp) ?_)
  have other : ∀ b u, b ≠ it → s.heap.get? b = some u → ((s.heap.update it (Obj.mapFields (·.setIfInBounds 0 (rawInt 0)))).update it (Obj.mapFields (·.setIfInBounds 2 Value.none))).get? b = some u := fun b u hb e =>
    (Heap.get?_update_other _ _ (Ne.symm hb)).trans ((Heap.get?_update_other _ _ (Ne.symm hb)).trans e)
  exact wpAny_mono (stop_atH (s := s) (it := it) (Q := Q) (E := E) hh (hot.at fun u e => other _ u apart e) other hQ) (fun _ _ z => z.elim) fun e s' z => z
end
section
variable {P : Program} {w : World} {A : Around} {a I x1 : Addr} {es : Array (Int × Value)} {ep : Nat} {t : SetTable}
theorem walks_textH (hh : A.handled = some (.ref x1)) (hne : a ≠ I) (hx : x1 ≠ I) (hf : t.fits es.size = true) (hbt : w.params.followText "set-order" = true) :
    Walks P w A I [I, a, x1] [I] (pickOrder (w.params.setOrder a ep) es).size (fun j v => ((pickOrder (w.params.setOrder a ep) es)[j]?).map (·.2) = some v)
      (fun i h => IsSI h I (.int ((0 : Nat) : Int) 0) i a es.size ep ∧ SetAt h a es ep t ∧ HotO x1 h) where
  sub := fun b hb => by simp at hb; simp [hb]
  frame := fun _ _ _ st hk => ⟨st.1.at fun o e => hk I (by simp) o e, st.2.1.at fun o e => hk a (by simp) o e, st.2.2.at fun o e => hk x1 (by simp) o e⟩
  item := fun i s Q E hi st hQ => by
    have e := Array.getElem?_eq_getElem hi
    refine next_item (x := ((pickOrder (w.params.setOrder a ep) es)[i]).2) (nx := 0) st.1 st.2.1 hf (fun A' E' Q' h => setNext_text st.2.1 hf hbt (by rw [e]; exact h)) fun h' on sb => ?_
    exact hQ _ h' s.toks (congrArg (Option.map fun q : Int × Value => q.2) e) ⟨on, st.2.1.at fun o q => sb.extBut a o hne q, st.2.2.at fun o q => sb.extBut x1 o hx q⟩ fun b o hb q => sb.extBut b o (fun z => hb (by simp [z])) q
  done := fun s Q E st hQ => by
    have e : (pickOrder (w.params.setOrder a ep) es)[(pickOrder (w.params.setOrder a ep) es).size]? = none := Array.getElem?_eq_none (Nat.le_refl _)
    exact next_endH hh st.2.2 st.1 st.2.1 hf (fun A' E' Q' h => setNext_text st.2.1 hf hbt (by rw [e]; exact h)) fun h' off => hQ h' s.toks fun b o hb q => off b o (fun z => hb (by simp [z])) q
  self := fun _ _ _ _ st hQ => iter_self st.1 hQ
theorem walks_ledH (hh : A.handled = some (.ref x1)) (hne : a ≠ I) (hx : x1 ≠ I) (hf : t.fits es.size = true) (r : Ris t.place.toList) (hbt : w.params.followText "set-order" = false)
    (hdr : (!t.plain && decide (es.size > 1)) = false) (hl : t.led = true) :
    Walks P w A I [I, a, x1] [I] es.size (fun j v => (es[j]?).map (·.2) = some v)
      (fun i h => IsSI h I (.int ((slotAt t i : Nat) : Int) 0) i a es.size ep ∧ SetAt h a es ep t ∧ HotO x1 h) where
  sub := fun b hb => by simp at hb; simp [hb]
  frame := fun _ _ _ st hk => ⟨st.1.at fun o e => hk I (by simp) o e, st.2.1.at fun o e => hk a (by simp) o e, st.2.2.at fun o e => hk x1 (by simp) o e⟩
  item := fun i s Q E hi st hQ => by
    have same : t.place.size = es.size := by
      simp only [SetTable.fits, Bool.and_eq_true, beq_iff_eq] at hf
      exact hf.1
    have hip : i < t.place.size := by rw [same]; exact hi
    have e := Array.getElem?_eq_getElem hi
    have e2 := Array.getElem?_eq_getElem hip
    have at_ := below_slotAt r (Nat.le_of_lt hip)
    have up : slotAt t (i + 1) = t.place[i] + 1 := by
      show (t.place.toList[i]?.getD 0) + 1 = _
      rw [Array.getElem?_toList, e2] <;> rfl
    refine next_item (x := (es[i]).2) (nx := t.place[i] + 1) st.1 st.2.1 hf (fun A' E' Q' h => setNext_led st.2.1 hf hbt hdr hl (by rw [at_, e, e2]; exact h)) fun h' on sb => ?_
    exact hQ _ h' s.toks (congrArg (Option.map fun q : Int × Value => q.2) e) ⟨by rw [up]; exact on, st.2.1.at fun o q => sb.extBut a o hne q, st.2.2.at fun o q => sb.extBut x1 o hx q⟩ fun b o hb q => sb.extBut b o (fun z => hb (by simp [z])) q
  done := fun s Q E st hQ => by
    have same : t.place.size = es.size := by
      simp only [SetTable.fits, Bool.and_eq_true, beq_iff_eq] at hf
      exact hf.1
    have e : es[es.size]? = none := Array.getElem?_eq_none (Nat.le_refl _)
    have e2 : t.place[es.size]? = none := Array.getElem?_eq_none (Nat.le_of_eq same)
    have at_ : SetTable.below t.place (slotAt t es.size) = es.size := below_slotAt r (Nat.le_of_eq same.symm)
    exact next_endH hh st.2.2 st.1 st.2.1 hf (fun A' E' Q' h => setNext_led st.2.1 hf hbt hdr hl (by rw [at_, e, e2]; exact h)) fun h' off => hQ h' s.toks fun b o hb q => off b o (fun z => hb (by simp [z])) q
  self := fun _ _ _ _ st hQ => iter_self st.1 hQ
theorem walks_drawnH {p : Addr} {ys : List Nat} (hh : A.handled = some (.ref x1)) (hne : a ≠ I) (hx : x1 ≠ I) (hpe : p ≠ I) (hf : t.fits es.size = true) (hy : ∀ j ∈ ys, j < es.size) :
    Walks P w A I [I, a, p, x1] [I] ys.length (fun j v => (ys[j]?).bind (fun q => (es[q]?).map (·.2)) = some v)
      (fun i h => IsSI h I (.ref p) i a es.size ep ∧ SetAt h a es ep t ∧ h.get? p = some { cls := .type "tuple", data := .seq (ys.map fun (k : Nat) => rawInt (k : Int)).toArray } ∧ HotO x1 h) where
  sub := fun b hb => by simp at hb; simp [hb]
  frame := fun _ _ _ st hk => ⟨st.1.at fun o e => hk I (by simp) o e, st.2.1.at fun o e => hk a (by simp) o e, hk p (by simp) _ st.2.2.1, st.2.2.2.at fun o e => hk x1 (by simp) o e⟩
  item := fun i s Q E hi st hQ => by
    have e := List.getElem?_eq_getElem hi
    have lt : ys[i] < es.size := hy _ (List.getElem_mem hi)
    have e2 := Array.getElem?_eq_getElem lt
    refine next_drawn_item st.1 st.2.1 hf st.2.2.1 e e2 fun h' on sb => ?_
    have pv : (ys[i]?).bind (fun q => (es[q]?).map (·.2)) = some (es[ys[i]]'lt).2 := by
      rw [e]
      show (es[ys[i]]?).map (·.2) = _
      rw [e2] <;> rfl
    exact hQ _ h' s.toks pv ⟨on, st.2.1.at fun o q => sb.extBut a o hne q, sb.extBut p _ hpe st.2.2.1, st.2.2.2.at fun o q => sb.extBut x1 o hx q⟩ fun b o hb q => sb.extBut b o (fun z => hb (by simp [z])) q
  done := fun s Q E st hQ => by
    have e : ys[ys.length]? = none := List.getElem?_eq_none (Nat.le_refl _)
    exact next_drawn_endH hh st.2.2.2 st.1 st.2.1 hf st.2.2.1 e fun h' off => hQ h' s.toks fun b o hb q => off b o (fun z => hb (by simp [z])) q
  self := fun _ _ _ _ st hQ => iter_self st.1 hQ
end
section
variable {P : Program} {w : World} {A : Around} {E : Value → Shared → Prop} {s : Shared} {a x1 : Addr} {es : Array (Int × Value)} {ep : Nat} {t : SetTable}
/-- what iter(set) gives there -/
structure ItH (P : Program) (w : World) (x1 : Addr) (s : Shared) (a : Addr) (es : Array (Int × Value)) (s₂ : Shared) (I : Addr) (fp : List Addr) (St : Nat → Heap → Prop) (out : List Value) (Pv : Nat → Value → Prop) : Prop where
  keep : ∀ b o, s.heap.get? b = some o → s₂.heap.get? b = some o
  gens : s₂.gens = s.gens
  os : s₂.os = s.os
  new : s.heap.objs.size ≤ I
  low : ∀ b ∈ fp, b = a ∨ b = x1 ∨ s.heap.objs.size ≤ b
  perm : out.Perm (es.toList.map (·.2))
  walk : ∀ A' : Around, A'.handled = some (.ref x1) → Walks P w A' I fp [I] out.length Pv St
  told : ∀ j v, Pv j v → out[j]? = some v
  st : St 0 s₂.heap
theorem ItH.of {s₂ : Shared} {I : Addr} {fp : List Addr} {St : Nat → Heap → Prop} {out : List Value} {Pv : Nat → Value → Prop} {n : Nat} (W : ∀ A' : Around, A'.handled = some (.ref x1) → Walks P w A' I fp [I] n Pv St) (hn : out.length = n)
    (k : ∀ b o, s.heap.get? b = some o → s₂.heap.get? b = some o) (g : s₂.gens = s.gens) (o : s₂.os = s.os) (hI : s.heap.objs.size ≤ I) (hp : out.Perm (es.toList.map (·.2))) (hst : St 0 s₂.heap) (hfp : ∀ b ∈ fp, b = a ∨ b = x1 ∨ s.heap.objs.size ≤ b) (hPv : ∀ j v, Pv j v → out[j]? = some v) :
    ItH P w x1 s a es s₂ I fp St out Pv := by
  subst hn
  exact ⟨k, g, o, hI, hfp, hp, W, hPv, hst⟩
theorem iter_setH {Q : Value → Shared → Prop} (hot : HotO x1 s.heap) (ha : SetAt s.heap a es ep t) (hf : t.fits es.size = true) (hsz : es.size < scanBound) (r : Ris t.place.toList)
    (hl : w.params.followText "set-order" = true ∨ t.led = true) (hQ : ∀ s₂ I fp St out Pv, ItH P w x1 s a es s₂ I fp St out Pv → Q (.ref I) s₂) : wpAny (model P w) A (pyIter (.ref a)) Q E s := by
  obtain ⟨o, ho, hc, hd⟩ := id ha
  have hT : s.TypeIs (.ref a) "set" := ⟨o, ho, hc⟩
  have lt := Heap.lt_size ho
  have ltx := hot.lt
  refine wpAny_pyIter_slot hT F.slot_set_iter (wpAny_call_entry F.slot_set_iter hT entry_s_iter ?_ (F.args_set_iter_1 _))
  unfold Builtin.«frozenset.__iter__»
  refine wpAny_bind (m := Builtin.Frozenset.slot0 "__iter__" _) (wpAny_of_eq (a := a) (by rfl) ?_)
  refine wpAny_bind (m := Builtin.Frozenset.sizeOf a) ?_
  unfold Builtin.Frozenset.sizeOf
  refine wpAny_bind (wpAny_setEntries_of ho hd hf (wpAny_pure ?_))
  first | refine wpAny_bind (setDrawn_at ha hf ?_) | refine wpAny_bind (wpAny_bind (setDrawn_at ha hf ?_))
  cases hb : w.params.followText "set-order" with
  | true =>
    refine wp_if_neg (by simp) ?_
    first | refine wpAny_bind (wpAny_pure ?_) | refine wpAny_pure ?_
    refine wpAny_bind (wpAny_setEpoch_of ho hd hf ?_)
    refine wpAny_bind (wpAny_newObj_type (wpAny_pure ⟨_, rfl, "set_iterator", _, ⟨_, Heap.get?_push_size _ rfl, rfl⟩, slot_si_next.lookup, ?_⟩))
    have len : ((pickOrder (w.params.setOrder a ep) es).toList.map (·.2)).length = (pickOrder (w.params.setOrder a ep) es).size := by rw [List.length_map, Array.length_toList]
    refine hQ _ _ _ _ _ _ (ItH.of (fun A' hA' => walks_textH (P := P) (ep := ep) hA' (Nat.ne_of_lt lt) (Nat.ne_of_lt ltx) hf hb) len (fun b u e => Heap.get?_push_of_some _ e) rfl rfl (Nat.le_refl _) ((pick_perm (w.params.setOrder a ep) es).map _)
      ⟨⟨_, Heap.get?_push_size _ rfl, rfl, rfl⟩, ha.at fun u e => Heap.get?_push_of_some _ e, hot.at fun u e => Heap.get?_push_of_some _ e⟩ (fun b hb' => ?_) (fun j v q => ?_))
    · simp only [List.mem_cons, List.not_mem_nil, or_false] at hb'
      rcases hb' with z | z | z
      · exact .inr (.inr (Nat.le_of_eq z.symm))
      · exact .inl z
      · exact .inr (.inl z)
    · rw [List.getElem?_map, Array.getElem?_toList]; exact q
  | false =>
    have led : t.led = true := hl.resolve_left (by rw [hb]; exact Bool.false_ne_true)
    cases hdr : (!t.plain && decide (es.size > 1)) with
    | false =>
      refine wp_if_neg (by simp) ?_
      first | refine wpAny_bind (wpAny_pure ?_) | refine wpAny_pure ?_
      refine wpAny_bind (wpAny_setEpoch_of ho hd hf ?_)
      refine wpAny_bind (wpAny_newObj_type (wpAny_pure ⟨_, rfl, "set_iterator", _, ⟨_, Heap.get?_push_size _ rfl, rfl⟩, slot_si_next.lookup, ?_⟩))
      have len : (es.toList.map (·.2)).length = es.size := by rw [List.length_map, Array.length_toList]
      refine hQ _ _ _ _ _ _ (ItH.of (fun A' hA' => walks_ledH (P := P) (ep := ep) hA' (Nat.ne_of_lt lt) (Nat.ne_of_lt ltx) hf r hb hdr led) len (fun b u e => Heap.get?_push_of_some _ e) rfl rfl (Nat.le_refl _) (List.Perm.refl _)
        ⟨⟨_, Heap.get?_push_size _ rfl, rfl, rfl⟩, ha.at fun u e => Heap.get?_push_of_some _ e, hot.at fun u e => Heap.get?_push_of_some _ e⟩ (fun b hb' => ?_) (fun j v q => ?_))
      · simp only [List.mem_cons, List.not_mem_nil, or_false] at hb'
        rcases hb' with z | z | z
        · exact .inr (.inr (Nat.le_of_eq z.symm))
        · exact .inl z
        · exact .inr (.inl z)
      · rw [List.getElem?_map, Array.getElem?_toList]; exact q
    | true =>
      refine wp_if_pos rfl ?_
      refine wpAny_bind (drawOrder_at _ _ _ _ (Nat.le_of_eq List.length_range) fun ys d hp => ?_)
      have yl : ys.length = es.size := by rw [hp.length_eq, List.length_range]
      have few : (ys.map fun (k : Nat) => rawInt (k : Int)).length ≤ sizeLine := by rw [List.length_map, yl]; exact fits_of_scanBound hsz
      first | refine wpAny_bind (wpAny_newTuple ?_ few) | refine wpAny_newTuple ?_ few
      have ho2 : (s.heap.push { cls := .type "tuple", data := .seq (ys.map fun (k : Nat) => rawInt (k : Int)).toArray }).get? a = some o := Heap.get?_push_of_some _ ho
      refine wpAny_bind (wpAny_setEpoch_of ho2 hd hf ?_)
      refine wpAny_bind (wpAny_newObj_type (wpAny_pure ⟨_, rfl, "set_iterator", _, ⟨_, Heap.get?_push_size _ rfl, rfl⟩, slot_si_next.lookup, ?_⟩))
      have grow : (s.heap.push { cls := .type "tuple", data := .seq (ys.map fun (k : Nat) => rawInt (k : Int)).toArray }).objs.size = s.heap.objs.size + 1 := size_push' _ _
      have below : ∀ j ∈ ys, j < es.size := fun j hj => List.mem_range.mp (hp.mem_iff.mp hj)
      have len : (ys.map fun q => ((es[q]?).map (·.2)).getD Value.none).length = ys.length := List.length_map _
      have n1 : a ≠ (s.heap.push { cls := .type "tuple", data := .seq (ys.map fun (k : Nat) => rawInt (k : Int)).toArray }).objs.size := by rw [grow]; exact Nat.ne_of_lt (Nat.lt_succ_of_lt lt)
      have n2 : x1 ≠ (s.heap.push { cls := .type "tuple", data := .seq (ys.map fun (k : Nat) => rawInt (k : Int)).toArray }).objs.size := by rw [grow]; exact Nat.ne_of_lt (Nat.lt_succ_of_lt ltx)
      have n3 : s.heap.objs.size ≠ (s.heap.push { cls := .type "tuple", data := .seq (ys.map fun (k : Nat) => rawInt (k : Int)).toArray }).objs.size := by rw [grow]; exact Nat.ne_of_lt (Nat.lt_succ_self _)
      have perm : (ys.map fun q => ((es[q]?).map (·.2)).getD Value.none).Perm (es.toList.map (·.2)) := by
        rw [← range_map es]
        exact hp.map _
      refine hQ _ _ _ _ _ _ (ItH.of (fun A' hA' => walks_drawnH (P := P) (w := w) (ep := ep) (t := t) hA' n1 n2 n3 hf below) len (fun b u e => Heap.get?_push_of_some _ (Heap.get?_push_of_some _ e)) rfl rfl (by rw [grow]; exact Nat.le_succ _) perm
        ⟨⟨_, Heap.get?_push_size _ rfl, rfl, rfl⟩, ha.at fun u e => Heap.get?_push_of_some _ (Heap.get?_push_of_some _ e), Heap.get?_push_of_some _ (Heap.get?_push_size _ rfl), hot.at fun u e => Heap.get?_push_of_some _ (Heap.get?_push_of_some _ e)⟩ (fun b hb' => ?_) (fun j v q => ?_))
      · simp only [List.mem_cons, List.not_mem_nil, or_false] at hb'
        rcases hb' with z | z | z | z
        · exact .inr (.inr (by rw [z, grow]; exact Nat.le_succ _))
        · exact .inl z
        · exact .inr (.inr (Nat.le_of_eq z.symm))
        · exact .inr (.inl z)
      · rw [List.getElem?_map]
        cases hy : ys[j]? with
        | none => rw [hy] at q; cases q
        | some k =>
          rw [hy] at q
          have q' : (es[k]?).map (·.2) = some v := q
          show some (((es[k]?).map (·.2)).getD Value.none) = some v
          rw [q'] <;> rfl
/-- the members gathered -/
theorem collect_setH {Q : List Value → Shared → Prop} (hh : A.handled = some (.ref x1)) (hot : HotO x1 s.heap) (ha : SetAt s.heap a es ep t) (hf : t.fits es.size = true) (hsz : es.size < scanBound) (r : Ris t.place.toList)
    (hl : w.params.followText "set-order" = true ∨ t.led = true)
    (hQ : ∀ s' out, (∀ b o, s.heap.get? b = some o → s'.heap.get? b = some o) → s.heap.objs.size ≤ s'.heap.objs.size → s'.gens = s.gens → s'.os = s.os → out.Perm (es.toList.map (·.2)) → Q out s') :
    wpAny (model P w) A (collect (.ref a)) Q E s := by
  obtain ⟨o, ho, hc, hd⟩ := id ha
  have lt := Heap.lt_size ho
  have ltx := hot.lt
  have away : s.heap.objs.size ≠ a := Nat.ne_of_gt lt
  unfold collect
  refine wpAny_bind (wpAny_runValue (codeAny_builtin F.entry_proto_collect ?_))
  rw [Around.under_plainId F.plain_proto_collect _]
  show wpAny _ A.in1 (newList [] >>= fun l => again (.builtin "list.__iadd__" ⟨[l, .ref a], []⟩)) _ _ s
  refine wpAny_bind (wpAny_newObj_type ?_)
  refine wpAny_pure ⟨plainId_quiet F.plain_list_iadd _, codeAny_builtin F.entry_list_iadd ?_⟩
  rw [Around.under_plainId F.plain_list_iadd _]
  have hS : (s.heap.push { cls := .type "list", data := .seq ([] : List Value).toArray }).get? s.heap.objs.size = some { cls := .type "list", data := .seq ([] : List Value).toArray } := Heap.get?_push_size _ rfl
  have up : ∀ b u, s.heap.get? b = some u → (s.heap.push { cls := .type "list", data := .seq ([] : List Value).toArray }).get? b = some u := fun b u e => Heap.get?_push_of_some _ e
  have grow : (s.heap.push { cls := .type "list", data := .seq ([] : List Value).toArray }).objs.size = s.heap.objs.size + 1 := size_push' _ _
  show wpAny _ A.in1 (Builtin.List.listExtendWith (.ref s.heap.objs.size) (.ref a) (.ref s.heap.objs.size)) _ _ _
  unfold Builtin.List.listExtendWith
  refine wpAny_bind (wpAny_typeOf (T := "set") ⟨o, up _ _ ho, hc⟩ ?_)
  have h1 : Builtin.List.listSameRef (.ref s.heap.objs.size) (.ref a) = false := by simp [Builtin.List.listSameRef, away]
  have h2 : (Value.type "set" == Value.type "list") = false := by decide
  have h3 : (Value.type "set" == Value.type "tuple") = false := by decide
  simp only [h1, h2, h3, Bool.or_false, Bool.false_eq_true, if_false]
  refine wpAny_bind (iter_setH (x1 := x1) (s := { s with heap := s.heap.push { cls := .type "list", data := .seq ([] : List Value).toArray } }) (hot.at fun u e => up _ _ e) (ha.at fun u e => up _ _ e) hf hsz r hl fun s₂ I fp St out Pv hit => ?_)
  have newI : s.heap.objs.size + 1 ≤ I := by rw [← grow]; exact hit.new
  have off : s.heap.objs.size ∉ fp := fun hm => by
    rcases hit.low _ hm with z | z | z
    · exact away z
    · exact Nat.ne_of_gt ltx z
    · have z' : s.heap.objs.size + 1 ≤ s.heap.objs.size := by rw [← grow]; exact z
      exact Nat.not_succ_le_self _ z'
  have ho2 := hit.keep a o (up _ _ ho)
  have hT2 : s₂.TypeIs (.ref a) "set" := ⟨o, ho2, hc⟩
  refine wpAny_bind (wpAny_holding ?_)
  unfold Builtin.List.listLengthHint
  refine wpAny_bind (wpAny_specialOf hT2 F.slot_set_len.lookup ?_)
  (generalize hid : ("set.__len__" : String) = id0; (fail_if_success (clear hid id0)); wp_delta; rw [show splitId id0 = some ("set", "__len__") from by subst hid; decide +kernel]; subst hid)
  refine wpAny_bind (wpAny_isInstance (b := true) hT2 sub_set_self ?_)
  show wpAny _ A.in1 (typeOf (.ref a) >>= _) _ _ _
  refine wpAny_bind (wpAny_typeOf hT2 ?_)
  refine wpAny_pure ?_
  show wpAny _ A.in1 (rule "list.extend.makes-room" >>= fun _ => Builtin.List.listTouch (.ref s.heap.objs.size) >>= fun _ =>
    again (.builtin "list.extend.loop" ⟨[.ref s.heap.objs.size, .ref I, .ref s.heap.objs.size], []⟩)) _ _ _
  refine wpAny_bind (wpAny_rule ?_)
  have hS2 := hit.keep _ _ hS
  refine wpAny_bind ?_
  show wpAny _ A.in1 (updateSeq s.heap.objs.size (·.push .none) >>= fun _ => updateSeq s.heap.objs.size (·.pop)) _ _ _
  refine wpAny_bind (wpAny_updateSeq hS2 rfl ?_)
  have hS3 := Heap.get?_update_self (Obj.mapSeq (·.push Value.none)) hS2 rfl
  refine wpAny_updateSeq hS3 rfl ?_
  have hS4 := Heap.get?_update_self (Obj.mapSeq (·.pop)) hS3 rfl
  have oth : ∀ b u, b ≠ s.heap.objs.size → s₂.heap.get? b = some u → ((s₂.heap.update s.heap.objs.size (Obj.mapSeq (·.push Value.none))).update s.heap.objs.size (Obj.mapSeq (·.pop))).get? b = some u :=
    fun b u hb e => (Heap.get?_update_other _ _ (Ne.symm hb)).trans ((Heap.get?_update_other _ _ (Ne.symm hb)).trans e)
  have few : out.length ≤ sizeLine := by
    rw [hit.perm.length_eq, List.length_map, Array.length_toList]
    exact fits_of_scanBound hsz
  have W := hit.walk A.in1 hh
  have st2 : St 0 ((s₂.heap.update s.heap.objs.size (Obj.mapSeq (·.push Value.none))).update s.heap.objs.size (Obj.mapSeq (·.pop))) := W.frame 0 _ _ hit.st fun b hb u e => oth b u (fun z => off (z ▸ hb)) e
  refine wpAny_pure ⟨plainId_quiet F.plain_extend_loop _, codeAny_extend_loopS W.toS few _ off _ out.length 0 _ _ _ rfl (Nat.zero_le _) st2 hS4 (ItemsOf.nil Pv) fun s' acc' c' hm hS' hacc => ?_⟩
  show wpAny _ A (load s.heap.objs.size >>= _) _ _ s'
  refine wpAny_bind (wpAny_load hS' ?_)
  refine wpAny_pure ?_
  show Q acc'.toList s'
  rw [items_out hacc hit.told]
  refine hQ s' out (fun b u e => ?_) (Nat.le_of_lt (Heap.lt_size hS')) (Eq.trans hm.gens hit.gens) (Eq.trans hm.os hit.os) hit.perm
  have lb := Heap.lt_size e
  refine hm.heap b u (fun z => ?_) (oth b u (Nat.ne_of_lt lb) (hit.keep b u (up _ _ e)))
  rcases List.mem_cons.mp z with z | z
  · first
      | exact absurd lb (by rw [z]; exact Nat.lt_irrefl _)
      | exact absurd lb (by rw [z]; exact Nat.not_lt_of_le (Nat.le_of_succ_le newI))
  · have z := List.mem_singleton.mp z
    first
      | exact absurd lb (by rw [z]; exact Nat.lt_irrefl _)
      | exact absurd lb (by rw [z]; exact Nat.not_lt_of_le (Nat.le_of_succ_le newI))
theorem sorted_setH {S : Int → Bool} {n : Nat} {Q : Value → Shared → Prop} (R : SetR w s.heap a S n) (hh : A.handled = some (.ref x1)) (hot : HotO x1 s.heap)
    (hQ : ∀ s' p (out : Array Value) (c : Nat) (ns : List Int), (∀ b o, s.heap.get? b = some o → s'.heap.get? b = some o) → s'.gens = s.gens → s'.os = s.os → s.heap.objs.size ≤ p →
      s'.heap.get? p = some (seqObj "list" out c) → IntsAre out.toList ns → ns.Pairwise (· < ·) → (∀ k, k ∈ ns ↔ S k = true) → ns.length = n → n ≤ sizeLine → Q (.ref p) s') :
    wpAny (model P w) A (call (.builtin "sorted") [.ref a]) Q E s := by
  obtain ⟨o, es, ep, t, ho, hex, hd, g, nd, hm, hb, hf, hn, hr, hl⟩ := R
  have hz : n ≤ sizeLine := by rw [← hn]; exact fits_of_scanBound hb
  refine Calls.call_function_entry kind_sorted plain_sorted entry_sorted (args_sorted1 _) ?_
  unfold Builtin.«sorted»
  refine wpAny_bind (m := checkCount "sorted" 1 1 _) (wpAny_pure ?_)
  refine wpAny_bind (collect_setH (A := A.in1) hh hot ⟨o, ho, hex.1, hd⟩ hf hb hr hl fun s1 vs k1 hz1 g1 o1 pm => ?_)
  have hvl : vs.length = n := by rw [pm.length_eq, List.length_map, Array.length_toList]; exact hn
  have hI : IntsAre vs (vs.map Builtin.Re.reRawOf) := ints_of vs fun v hv => by
    obtain ⟨e, he, q⟩ := List.mem_map.mp (pm.mem_iff.mp hv)
    obtain ⟨k, tk, h1, _⟩ := g e he
    exact ⟨k, tk, by rw [← q]; exact h1⟩
  have pk : (vs.map Builtin.Re.reRawOf).Perm (es.toList.map keyOf) := by
    have q := pm.map Builtin.Re.reRawOf
    rw [List.map_map] at q
    exact q
  refine wpAny_bind (wpAny_newList ?_ (by rw [hvl]; exact hz))
  have hoL : (s1.heap.push (seqObj "list" vs.toArray 0)).get? s1.heap.objs.size = some (seqObj "list" vs.toArray 0) := Heap.get?_push_size _ rfl
  refine wpAny_bind (wpAny_holding (wpAny_call_entry slot_list_sort ⟨_, hoL, rfl⟩ entry_list_sort (SrtO.list_sort_ord SrtO.swo_int hoL (by rw [hvl]; exact hz) (fun h2 => SrtO.ints_sortable hI h2) fun out h1 h2 => ⟨_, rfl, ?_⟩) (args_list_sort _)))
  obtain ⟨k1', a2, a1⟩ := SrtO.ints_out hI h1 h2
  obtain ⟨c, hc⟩ := sortedHeap_at (vs := vs) (out := out.toArray) hoL
  have pn : (out.map SrtO.iv).Perm (es.toList.map keyOf) := a2.trans pk
  refine wpAny_pure ⟨_, rfl, hQ _ s1.heap.objs.size out.toArray c (out.map SrtO.iv) (fun b u e => ?_) g1 o1 hz1 hc k1' (lt_of_le_nodup _ a1 (pn.nodup_iff.mpr nd)) (fun k => by rw [pn.mem_iff, ← hm k]) ?_ hz⟩
  · have q := k1 b u e
    have hlt := Heap.lt_size q
    show (sortedHeap (s1.heap.push (seqObj "list" vs.toArray 0)) s1.heap.objs.size vs out.toArray).get? b = some u
    rw [sortedHeap_old (Nat.ne_of_lt hlt) (by rw [size_push']; exact Nat.lt_succ_of_lt hlt)]
    exact Heap.get?_push_of_some _ q
  · rw [pn.length_eq, List.length_map, Array.length_toList]; exact hn
end
section
variable {P : Program} {w : World} {A : Around} {E : Value → Shared → Prop} {s : Shared} {x1 : Addr}
/-- what set.__init__ does with a list of ints -/
theorem set_filledH {l : Addr} {arr : Array Value} {xs : List Int} {R : Value → Shared → Prop} (hh : A.handled = some (.ref x1)) (hot : HotO x1 s.heap) (lst : s.heap.IsList l arr) (num : IntsAre arr.toList xs) (few : xs.length + 1 < scanBound)
    (told : ∀ (h' : Heap) (tk c : Nat), SetR w h' s.heap.objs.size (fun j => decide (j ∈ xs)) c → c ≤ xs.length → (∀ b o, s.heap.get? b = some o → h'.get? b = some o) → R .none { s with heap := h', toks := tk }) :
    codeAny (model P w) A (.call (.builtin "set.__init__") ⟨[.ref s.heap.objs.size, .ref l], []⟩) (wants R E) { s with heap := s.heap.push (bare w) } := by
  have own : (s.heap.push (bare w)).get? s.heap.objs.size = some (bare w) := Heap.get?_push_size _ rfl
  have kind : Shared.TypeIs { s with heap := s.heap.push (bare w) } (.ref s.heap.objs.size) "set" := ⟨_, own, rfl⟩
  have many : arr.size = xs.length := by rw [← Array.length_toList, IntsAre.length num]
  refine codeAny_call_builtin F.called_set.init.plain F.entry_set_init (check_set_init_1 kind ?_)
  obtain ⟨⟨cl, od, dat, sl⟩, at_l, is_l, nn, is_d⟩ := lst
  dsimp only at is_l is_d
  subst is_l is_d
  have below := Heap.lt_size at_l
  have at_l1 : (s.heap.push (bare w)).get? l = some ⟨.type "list", od, .seq arr nn, sl⟩ := Heap.get?_push_of_some _ at_l
  have lst1 : (s.heap.push (bare w)).IsList l arr := ⟨_, at_l1, rfl, nn, rfl⟩
  have no1 := F.sub_list_set
  have no2 := F.sub_list_frozenset
  have no3 : (Value.type "list" == Value.type "dict") = false := by decide
  unfold Builtin.«set.__init__» noKeywords Builtin.Frozenset.updateFrom
  generalize walker : pyIter = PI
  wp_walk
  subst walker
  refine wpAny_pyIter_list lst1 (wpAny_bind (wpAny_runValue ?_))
  have size1 : (s.heap.push (bare w)).objs.size = s.heap.objs.size + 1 := Heap.size_push ..
  have ne1 : l ≠ (s.heap.push (bare w)).objs.size := size1 ▸ Nat.ne_of_lt (Nat.lt_succ_of_lt below)
  have hh3 : A.in1.in1.handled = some (.ref x1) := hh
  have ltx := hot.lt
  have nex : x1 ≠ (s.heap.push (bare w)).objs.size := size1 ▸ Nat.ne_of_lt (Nat.lt_succ_of_lt ltx)
  have out : s.heap.objs.size ∉ [(s.heap.push (bare w)).objs.size, l, x1] := by
    intro hm
    rcases List.mem_cons.mp hm with e | hm
    · rw [size1] at e
      exact Nat.ne_of_lt (Nat.lt_succ_self _) e
    rcases List.mem_cons.mp hm with e | hm
    · exact Nat.ne_of_lt below e.symm
    · exact Nat.ne_of_lt ltx (List.mem_singleton.mp hm).symm
  have each : ∀ (i : Nat) (v : Value), arr[i]? = some v → ∃ k t, xs[i]? = some k ∧ v = .int k t := by
    intro i v hv
    have hi : i < xs.length := many ▸ (Array.getElem?_eq_some_iff.mp hv).1
    obtain ⟨t, e⟩ := PyProof.Rows.IntsAre.int_at num i v ((Array.getElem?_toList ..).trans hv)
    refine ⟨xs[i], t, List.getElem?_eq_getElem hi, ?_⟩
    rw [e, List.getD_eq_getElem?_getD, List.getElem?_eq_getElem hi]
    rfl
  refine set_update_ints ((walks_listH hh3 ne1 nex arr).toS) s.heap.objs.size out xs many few each (arr.size - 0) 0 _ (by omega) (Nat.zero_le _) ⟨⟨_, Heap.get?_push_size _ rfl, rfl, rfl⟩, lst1.push _, hot.at fun u e => Heap.get?_push_of_some _ (Heap.get?_push_of_some _ e)⟩ ⟨0, Nat.le_refl 0, setR_new_at (Heap.get?_push_of_some _ own)⟩ ?_
  rintro ⟨h', g', d', tk', os'⟩ c moved bound full
  obtain rfl : g' = s.gens := moved.gens
  obtain rfl : d' = s.drawn := moved.drawn
  obtain rfl : os' = s.os := moved.os
  show wpAny _ _ _ _ _ _
  refine wpAny_pure ?_
  show wpAny _ _ (ret Value.none) _ _ _
  refine wpAny_pure (told h' tk' c full (many ▸ bound) fun b o e => ?_)
  have low := Heap.lt_size e
  refine moved.heap b o ?_ (Heap.get?_push_of_some _ (Heap.get?_push_of_some _ e))
  intro hm
  rcases List.mem_cons.mp hm with z | hm
  · exact Nat.ne_of_lt low z
  · have z := List.mem_singleton.mp hm
    rw [size1] at z
    exact Nat.ne_of_lt (Nat.lt_succ_of_lt low) z
theorem call_set_intsH {l : Addr} {arr : Array Value} {xs : List Int} {Q : Value → Shared → Prop} (hh : A.handled = some (.ref x1)) (hot : HotO x1 s.heap) (lst : s.heap.IsList l arr) (num : IntsAre arr.toList xs) (few : xs.length + 1 < scanBound)
    (then_ : ∀ (h' : Heap) (tk c : Nat), SetR w h' s.heap.objs.size (fun j => decide (j ∈ xs)) c → c ≤ xs.length → (∀ b o, s.heap.get? b = some o → h'.get? b = some o) → Q (.ref s.heap.objs.size) { s with heap := h', toks := tk }) :
    wpAny (model P w) A (call (.type "set") [.ref l]) Q E s := by
  obtain ⟨_, _, order⟩ := F.called_set.mro
  have made := F.called_set.made
  have below := F.called_set.sub
  refine wpAny_call (codeAny_of_tree ?_)
  show wpAny _ _ (callAny (.type "set") ⟨[.ref l], []⟩) _ _ s
  refine wpAny_pure ⟨Code.quiet_builtin _ (by decide +kernel), codeAny_builtin F.entry_type_call ?_⟩
  rw [Around.under_plain (weight_type_call_type "set" [.ref l] []) rfl]
  have f1 := F.called_set.notType
  have f2 := F.called_set.canCreate
  have f3 := F.typeCall_set_1 (.ref l)
  repeat (any_goals (first | assumption | wp_step))
  refine codeAny_mono (code_set_led1 (.ref l) (E := E) (Q₁ := fun u t => u = .ref s.heap.objs.size ∧ t = { s with heap := s.heap.push (bare w) }) ⟨rfl, rfl⟩) fun r t first => ?_
  match r, first with
  | .error e, first => exact first
  | .ok .next, first => exact first.elim
  | .ok .brk, first => exact first.elim
  | .ok .cont, first => exact first.elim
  | .ok (.ret u), ⟨eu, et⟩ =>
    subst eu et
    have kind : Shared.TypeIs { s with heap := s.heap.push (bare w) } (.ref s.heap.objs.size) "set" := ⟨_, Heap.get?_push_size _ rfl, rfl⟩
    have f4 := F.called_set.init.lookup
    have f5 := F.called_set.init.bind (.ref s.heap.objs.size)
    repeat (any_goals (first | assumption | wp_step))
    refine codeAny_mono (set_filledH (A := _) (E := E) (R := fun v t => v = .none ∧ ∃ h' tk c, t = { s with heap := h', toks := tk } ∧ SetR w h' s.heap.objs.size (fun j => decide (j ∈ xs)) c ∧ c ≤ xs.length ∧ (∀ b o, s.heap.get? b = some o → h'.get? b = some o)) hh hot lst num few fun h' tk c a b k => ⟨rfl, h', tk, c, rfl, a, b, k⟩) fun r t second => ?_
    match r, second with
    | .error e, second => exact second
    | .ok .next, second => exact second.elim
    | .ok .brk, second => exact second.elim
    | .ok .cont, second => exact second.elim
    | .ok (.ret v), ⟨ev, h', tk, c, et, a, b, k⟩ =>
      subst ev et
      repeat (any_goals (first | assumption | wp_step))
      exact then_ _ _ _ a b k
end
section
variable {X : Cx}
theorem cr_sortedSetH (hc : HotC X) : CallR X (.builtin "sorted") (rSortedSet X.w) := by
  intro pins s σ H vs us Q I r h
  obtain ⟨a, S, n, rfl, ha, h64, q⟩ := h
  have R := setO_get I ha
  rw [Vals.ref1 r]
  obtain ⟨x1, hh, hot⟩ := hc.at I
  refine sorted_setH R hh hot fun s' p out c ns k g o hp hg hi hs hm hl hz => ?_
  have hlen : (ns.map V.int).length ≤ sizeLine := by rw [List.length_map, hl]; exact hz
  have hn : H p = none := I.hok.fresh hp
  have J : Inv X pins σ (upd H p (.lst (ns.map V.int))) { s with heap := s'.heap, gens := s'.gens, drawn := s'.drawn, toks := s'.toks } :=
    I.call (ch := []) (Un.laid k hp hn) (I.hok.laid k hp ⟨hlen, out.toList, c, vals_of_ints hi, hg⟩) (by rw [g]; exact I.bare) (fun _ z => nomatch z)
  have e : s' = { s with heap := s'.heap, gens := s'.gens, drawn := s'.drawn, toks := s'.toks } := by
    cases s'
    cases s
    cases o
    rfl
  rw [e]
  exact ⟨.ref p, _, J, rfl, q ns p hs hm hl hn⟩
theorem cr_setOfH (hc : HotC X) : CallR X (.type "set") (rSetOf X.K X.w) := by
  intro pins s σ H vs us Q I r h
  obtain ⟨l, xs, rfl, seq, few, q⟩ := h
  obtain rfl := Vals.ref1 r
  obtain ⟨its, rv, pl, _⟩ := I.list seq
  have num : IntsAre its xs := intsAre_of rv
  obtain ⟨x1, hh, hot⟩ := hc.at I
  refine call_set_intsH hh hot pl.isList (by simpa using num) (by unfold scanBound; omega) fun h' tk c full bound k => ?_
  exact ⟨.ref _, _, I.laid (t' := tk) k (Nat.le_refl _) (setO_new full), rfl, q _ c (I.hok.fresh (Nat.le_refl _)) bound⟩
end
end V0
namespace K48
open PySem PySem.Spec PyProof.Rows L2 V0
/-! ### names in the order that their uses ask -/
inductive Topo (U : Nat → List Nat) : List Nat → Prop where
  | nil : Topo U []
  | snoc {l : List Nat} {x : Nat} : Topo U l → (∀ u ∈ U x, u ∈ l) → Topo U (l ++ [x])
theorem Topo.at {U : Nat → List Nat} {l : List Nat} (h : Topo U l) : ∀ {i x : Nat}, l[i]? = some x → ∀ u ∈ U x, u ∈ l.take i := by
  induction h with
  | nil =>
    intro i x e
    simp at e
  | @snoc l y _ hu ih =>
    intro i x e u m
    by_cases hi : i < l.length
    · rw [List.getElem?_append_left hi] at e
      rw [List.take_append_of_le_length (by omega)]
      exact ih e u m
    · have hl : i = l.length := by
        have := (List.getElem?_eq_some_iff.mp e).1
        rw [List.length_append] at this
        have : i < l.length + 1 := this
        omega
      subst hl
      rw [List.getElem?_append_right (Nat.le_refl _), Nat.sub_self] at e
      cases e
      rw [List.take_left]
      exact hu u m
def usum (f : Nat → Nat) (S : List Nat) : List Nat → Nat
  | [] => 0
  | y :: N => (if y ∈ S then 0 else f y) + usum f S N
theorem usum_le {f : Nat → Nat} {S S' : List Nat} (h : ∀ y, y ∈ S → y ∈ S') : ∀ N : List Nat, usum f S' N ≤ usum f S N
  | [] => Nat.le_refl _
  | y :: N => by
    have ih := usum_le (f := f) h N
    unfold usum
    by_cases c : y ∈ S
    · rw [if_pos c, if_pos (h _ c)]
      omega
    · rw [if_neg c]
      by_cases d : y ∈ S'
      · rw [if_pos d]
        omega
      · rw [if_neg d]
        omega
theorem usum_congr {f : Nat → Nat} {S S' : List Nat} (h : ∀ y, y ∈ S ↔ y ∈ S') (N : List Nat) : usum f S' N = usum f S N := Nat.le_antisymm (usum_le (fun y => (h y).mp) N) (usum_le (fun y => (h y).mpr) N)
theorem usum_more {f : Nat → Nat} {S S' : List Nat} {u : Nat} (hu : u ∉ S) (h : ∀ y, y ∈ S' ↔ y = u ∨ y ∈ S) : ∀ N : List Nat, u ∈ N → usum f S' N + f u ≤ usum f S N
  | y :: N, m => by
    have le := usum_le (f := f) (fun y hy => (h y).mpr (.inr hy)) N
    unfold usum
    by_cases e : y = u
    · subst e
      rw [if_neg hu, if_pos ((h y).mpr (.inl rfl))]
      omega
    · have ih := usum_more (f := f) hu h N ((List.mem_cons.mp m).resolve_left fun z => e z.symm)
      by_cases c : y ∈ S
      · rw [if_pos c, if_pos ((h y).mpr (.inr c))]
        omega
      · rw [if_neg c, if_neg (fun z => ((h y).mp z).elim e c)]
        omega
theorem usum_one (S : List Nat) : ∀ N : List Nat, usum (fun _ => 1) S N ≤ N.length
  | [] => Nat.le_refl _
  | y :: N => by
    have ih := usum_one S N
    unfold usum
    show _ ≤ N.length + 1
    split <;> omega
structure Seen (ks : List (Key × V)) (N S : List Nat) : Prop where
  i : ∀ y : Nat, (valV ks (Sum.inl (y : Int))).isSome = true ↔ y ∈ S
  n : ks.length + usum (fun _ => 1) S N ≤ N.length
  m : S.length ≤ ks.length
theorem Seen.congr {ks : List (Key × V)} {N S S' : List Nat} (h : Seen ks N S) (k : ∀ y, y ∈ S ↔ y ∈ S') (l : S'.length = S.length) : Seen ks N S' :=
  ⟨fun y => (h.i y).trans (k y), by rw [usum_congr k N]; exact h.n, by rw [l]; exact h.m⟩
theorem Seen.put {ks : List (Key × V)} {N S S' : List Nat} {u : Nat} (h : Seen ks N S) (hu : u ∉ S) (uN : u ∈ N) (k : ∀ y, y ∈ S' ↔ y = u ∨ y ∈ S) (l : S'.length = S.length + 1) (v : V) : Seen (putK ks (Sum.inl (u : Int)) v) N S' := by
  have hv : valV ks (Sum.inl (u : Int)) = none := by
    cases e : valV ks (Sum.inl (u : Int)) with
    | none => rfl
    | some w => exact absurd ((h.i u).mp (by rw [e]; rfl)) hu
  have hl : (putK ks (Sum.inl (u : Int)) v).length = ks.length + 1 := by
    rw [putK_new v hv, List.length_append]
    rfl
  refine ⟨fun y => ?_, ?_, ?_⟩
  · rw [valV_put, k y]
    by_cases e : y = u
    · subst e
      rw [if_pos rfl]
      exact ⟨fun _ => .inl rfl, fun _ => rfl⟩
    · rw [if_neg (fun z : (Sum.inl (y : Int) : Key) = Sum.inl (u : Int) => e (by have := Sum.inl.inj z; omega)), h.i y]
      exact ⟨.inr, fun z => z.resolve_left e⟩
  · have := usum_more (f := fun _ => 1) hu k N uN
    have := h.n
    omega
  · have := h.m
    omega
/-- all names met: done before, done now, on the stack -/
def met (pre done : List Nat) (stk : List (Nat × Nat)) : List Nat := pre ++ done ++ stk.map (·.1)

/-! ### any names and the names that they use: circles too -/
/-- a way along the uses -/
inductive Rch (U : Nat → List Nat) : Nat → Nat → Prop where
  | rf (x : Nat) : Rch U x x
  | to {x y z : Nat} : y ∈ U x → Rch U y z → Rch U x z
theorem Rch.one {U : Nat → List Nat} {x y : Nat} (h : y ∈ U x) : Rch U x y := .to h (.rf y)
theorem Rch.trans {U : Nat → List Nat} {x y z : Nat} (a : Rch U x y) (b : Rch U y z) : Rch U x z := by
  induction a with
  | rf x => exact b
  | to e _ ih => exact .to e (ih b)
/-- a way whose names, but the last, are among S -/
inductive Pth (U : Nat → List Nat) (S : List Nat) : Nat → Nat → Prop where
  | rf (x : Nat) : Pth U S x x
  | to {x y z : Nat} : x ∈ S → y ∈ U x → Pth U S y z → Pth U S x z
theorem Pth.last {U : Nat → List Nat} {S : List Nat} {x z : Nat} (h : Pth U S x z) : x = z ∨ ∃ e, e ∈ S ∧ z ∈ U e := by
  induction h with
  | rf x => exact .inl rfl
  | @to x y z hx hy _ ih =>
    rcases ih with rfl | h
    · exact .inr ⟨x, hx, hy⟩
    · exact .inr h
theorem Pth.cut {U : Nat → List Nat} {S : List Nat} {n x z : Nat} (h : Pth U (S ++ [n]) x z) : Pth U S x z ∨ Pth U S x n := by
  induction h with
  | rf x => exact .inl (.rf x)
  | @to x y z hx hy _ ih =>
    rcases List.mem_append.mp hx with hx | hx
    · rcases ih with ih | ih
      · exact .inl (.to hx hy ih)
      · exact .inr (.to hx hy ih)
    · rw [List.mem_singleton.mp hx]
      exact .inr (.rf n)
/-- a way from x on which no name of S stands -/
inductive Apt (U : Nat → List Nat) (S : List Nat) (x : Nat) : Nat → Prop where
  | here : x ∉ S → Apt U S x x
  | step {y z : Nat} : Apt U S x y → z ∈ U y → z ∉ S → Apt U S x z
theorem Apt.off {U : Nat → List Nat} {S : List Nat} {x y : Nat} (h : Apt U S x y) : y ∉ S := by
  cases h with
  | here h => exact h
  | step _ _ h => exact h
/-- the order in which names are finished: who leads to x by names finished before is led to by x -/
inductive Kos (U : Nat → List Nat) : List Nat → Prop where
  | nil : Kos U []
  | snoc {l : List Nat} {x : Nat} : Kos U l → (∀ y, Pth U l y x → Rch U x y) → (∀ u ∈ U x, u ∈ l ∨ Rch U u x) → Kos U (l ++ [x])
structure Gf (U : Nat → List Nat) (N : List Nat) : Prop where
  dn : ∀ x ∈ N, ∀ u ∈ U x, u ∈ N
  few : N.length ≤ 1000
structure MG (U : Nat → List Nat) (N pre : List Nat) (x : Nat) (done : List Nat) (stk : List (Nat × Nat)) (ks : List (Key × V)) : Prop where
  seen : Seen ks N (met pre done stk)
  nod : (met pre done stk).Nodup
  kos : Kos U (pre ++ done)
  cl : ∀ d ∈ pre ++ done, ∀ u ∈ U d, u ∈ met pre done stk
  ba : ∀ p ∈ stk, ∀ d, Pth U (pre ++ done) d p.1 → Rch U p.1 d
  dn : ∀ y ∈ done, y ∈ N
  sN : ∀ p ∈ stk, p.1 ∈ N ∧ p.2 ≤ (U p.1).length ∧ ∀ (j u : Nat), j < p.2 → (U p.1)[j]? = some u → u ∈ met pre done stk
  so : stk.Pairwise (fun p q => Rch U p.1 q.1)
  av : ∀ y, y ∈ done ∨ y ∈ stk.map (·.1) → Apt U pre x y
  fx : x ∈ done ∨ x ∈ stk.map (·.1)
def meas (U : Nat → List Nat) (N S : List Nat) (stk : List (Nat × Nat)) : Nat := usum (fun y => (U y).length + 2) S N + (stk.map fun p => (U p.1).length + 1 - p.2).sum
theorem mem_met {pre done : List Nat} {stk : List (Nat × Nat)} {y : Nat} : y ∈ met pre done stk ↔ y ∈ pre ∨ y ∈ done ∨ y ∈ stk.map (·.1) := by
  unfold met
  rw [List.mem_append, List.mem_append, or_assoc]
theorem met_snoc {pre done : List Nat} {stk : List (Nat × Nat)} {p : Nat × Nat} {y : Nat} : y ∈ met pre done (stk ++ [p]) ↔ y = p.1 ∨ y ∈ met pre done stk := by
  rw [mem_met, mem_met, List.map_append, List.mem_append]
  show _ ∨ _ ∨ _ ∨ y ∈ [p.1] ↔ _
  rw [List.mem_singleton]
  constructor
  · rintro (h | h | h | h)
    · exact .inr (.inl h)
    · exact .inr (.inr (.inl h))
    · exact .inr (.inr (.inr h))
    · exact .inl h
  · rintro (h | h | h | h)
    · exact .inr (.inr (.inr h))
    · exact .inl h
    · exact .inr (.inl h)
    · exact .inr (.inr (.inl h))
theorem met_len {pre done : List Nat} {stk : List (Nat × Nat)} : (met pre done stk).length = pre.length + done.length + stk.length := by
  unfold met
  rw [List.length_append, List.length_append, List.length_map]
theorem met_at (pre done : List Nat) (stk : List (Nat × Nat)) (nm a b : Nat) : met pre done (stk ++ [(nm, a)]) = met pre done (stk ++ [(nm, b)]) := by
  unfold met
  rw [List.map_append, List.map_append]
  rfl
theorem met_new (pre done : List Nat) (stk : List (Nat × Nat)) (p : Nat × Nat) : met pre done (stk ++ [p]) = met pre done stk ++ [p.1] := by
  unfold met
  rw [List.map_append, ← List.append_assoc]
  rfl
section
variable {U : Nat → List Nat} {N pre : List Nat} {x : Nat} {done : List Nat} {stk : List (Nat × Nat)} {ks : List (Key × V)} {nm at_ : Nat}
theorem met_pop (pre done : List Nat) (stk : List (Nat × Nat)) (nm at_ : Nat) : ∀ y, y ∈ met pre done (stk ++ [(nm, at_)]) ↔ y ∈ met pre (done ++ [nm]) stk := fun y => by
  rw [met_snoc, mem_met, mem_met, List.mem_append, List.mem_singleton]
  constructor
  · rintro (h | h | h | h)
    · exact .inr (.inl (.inr h))
    · exact .inl h
    · exact .inr (.inl (.inl h))
    · exact .inr (.inr h)
  · rintro (h | (h | h) | h)
    · exact .inr (.inl h)
    · exact .inr (.inr (.inl h))
    · exact .inl h
    · exact .inr (.inr (.inr h))
theorem MG.pop (h : MG U N pre x done (stk ++ [(nm, at_)]) ks) (e : at_ = (U nm).length) : MG U N pre x (done ++ [nm]) stk ks := by
  have mm := met_pop pre done stk nm at_
  obtain ⟨nN, _, used⟩ := h.sN (nm, at_) (List.mem_append_right _ List.mem_cons_self)
  have used : ∀ u ∈ U nm, u ∈ met pre done (stk ++ [(nm, at_)]) := fun u hu => by
    obtain ⟨j, hj, ej⟩ := List.mem_iff_getElem.mp hu
    exact used j u (by show j < at_; omega) (by rw [List.getElem?_eq_getElem hj, ej])
  have so := List.pairwise_append.mp h.so
  have up : ∀ p ∈ stk, Rch U p.1 nm := fun p hp => so.2.2 p hp (nm, at_) List.mem_cons_self
  have bn := h.ba (nm, at_) (List.mem_append_right _ List.mem_cons_self)
  refine ⟨h.seen.congr mm ?_, ?_, ?_, ?_, ?_, ?_, ?_, so.1, ?_, ?_⟩
  · rw [met_len, met_len, List.length_append, List.length_append]
    show _ + (_ + 1) + _ = _ + _ + (_ + 1)
    omega
  · have n := h.nod
    unfold met at n ⊢
    rw [List.map_append] at n
    have p : (pre ++ done ++ (stk.map (·.1) ++ [nm])).Perm (pre ++ (done ++ [nm]) ++ stk.map (·.1)) := by
      have : pre ++ (done ++ [nm]) ++ stk.map (·.1) = pre ++ done ++ ([nm] ++ stk.map (·.1)) := by simp only [List.append_assoc]
      rw [this]
      exact List.Perm.append_left _ List.perm_append_comm
    exact p.nodup_iff.mp n
  · rw [← List.append_assoc]
    refine .snoc h.kos bn fun u hu => ?_
    have k := used u hu
    rw [met_snoc, mem_met] at k
    rcases k with k | k | k | k
    · exact .inr (by rw [show u = nm from k]; exact .rf _)
    · exact .inl (List.mem_append_left _ k)
    · exact .inl (List.mem_append_right _ k)
    · obtain ⟨p, hp, ep⟩ := List.mem_map.mp k
      exact .inr (by rw [← ep]; exact up p hp)
  · intro d hd u hu
    rw [← List.append_assoc] at hd
    rw [← mm]
    rcases List.mem_append.mp hd with hd | hd
    · exact h.cl d hd u hu
    · rw [List.mem_singleton.mp hd] at hu
      exact used u hu
  · intro p hp d hd
    rw [← List.append_assoc] at hd
    rcases hd.cut with c | c
    · exact h.ba p (List.mem_append_left _ hp) d c
    · exact (up p hp).trans (bn d c)
  · intro y hy
    rcases List.mem_append.mp hy with hy | hy
    · exact h.dn y hy
    · rw [List.mem_singleton.mp hy]
      exact nN
  · intro p hp
    obtain ⟨a, b, c⟩ := h.sN p (List.mem_append_left _ hp)
    exact ⟨a, b, fun j u hj eu => (mm u).mp (c j u hj eu)⟩
  · intro y hy
    refine h.av y ?_
    rw [List.map_append, List.mem_append]
    rw [List.mem_append, List.mem_singleton] at hy
    rcases hy with (hy | hy) | hy
    · exact .inl hy
    · exact .inr (.inr (by rw [hy]; exact List.mem_cons_self))
    · exact .inr (.inl hy)
  · rcases h.fx with k | k
    · exact .inl (List.mem_append_left _ k)
    · rw [List.map_append] at k
      rcases List.mem_append.mp k with k | k
      · exact .inr k
      · exact .inl (List.mem_append_right _ k)
theorem pop_lt (e : at_ = (U nm).length) : meas U N (met pre (done ++ [nm]) stk) stk < meas U N (met pre done (stk ++ [(nm, at_)])) (stk ++ [(nm, at_)]) := by
  unfold meas
  rw [List.map_append, List.sum_append]
  have le := usum_le (f := fun y => (U y).length + 2) (S := met pre done (stk ++ [(nm, at_)])) (S' := met pre (done ++ [nm]) stk) (fun y => (met_pop pre done stk nm at_ y).mp) N
  have : (([(nm, at_)] : List (Nat × Nat)).map fun p => (U p.1).length + 1 - p.2).sum = 1 := by
    show (U nm).length + 1 - at_ + 0 = 1
    omega
  omega
theorem MG.more (h : MG U N pre x done (stk ++ [(nm, at_)]) ks) {u : Nat} (e : (U nm)[at_]? = some u) (m : u ∈ met pre done (stk ++ [(nm, at_)])) : MG U N pre x done (stk ++ [(nm, at_ + 1)]) ks := by
  have em := met_at pre done stk nm at_ (at_ + 1)
  have e1 : (stk ++ [(nm, at_ + 1)]).map (·.1) = (stk ++ [(nm, at_)]).map (·.1) := by
    rw [List.map_append, List.map_append]
    rfl
  refine ⟨em ▸ h.seen, em ▸ h.nod, h.kos, fun d hd u hu => em ▸ h.cl d hd u hu, ?_, h.dn, ?_, ?_, ?_, ?_⟩
  · intro p hp
    rcases List.mem_append.mp hp with hp | hp
    · exact h.ba p (List.mem_append_left _ hp)
    · rw [List.mem_singleton.mp hp]
      exact h.ba (nm, at_) (List.mem_append_right _ List.mem_cons_self)
  · intro p hp
    rw [← em]
    rcases List.mem_append.mp hp with hp | hp
    · exact h.sN p (List.mem_append_left _ hp)
    · rw [List.mem_singleton.mp hp]
      obtain ⟨a, b, c⟩ := h.sN (nm, at_) (List.mem_append_right _ List.mem_cons_self)
      refine ⟨a, (List.getElem?_eq_some_iff.mp e).1, fun j w hj ew => ?_⟩
      by_cases k : j < at_
      · exact c j w k ew
      · have : j = at_ := by
          have : j < at_ + 1 := hj
          omega
        subst this
        have ew : (U nm)[j]? = some w := ew
        rw [e] at ew
        cases ew
        exact m
  · refine List.pairwise_append.mpr ⟨(List.pairwise_append.mp h.so).1, List.pairwise_singleton _ _, fun p hp q hq => ?_⟩
    rw [List.mem_singleton.mp hq]
    exact (List.pairwise_append.mp h.so).2.2 p hp (nm, at_) List.mem_cons_self
  · rw [e1]
    exact h.av
  · rw [e1]
    exact h.fx
theorem more_lt {u : Nat} (e : (U nm)[at_]? = some u) : meas U N (met pre done (stk ++ [(nm, at_ + 1)])) (stk ++ [(nm, at_ + 1)]) < meas U N (met pre done (stk ++ [(nm, at_)])) (stk ++ [(nm, at_)]) := by
  unfold meas
  rw [List.map_append, List.sum_append, List.map_append, List.sum_append, met_at pre done stk nm at_ (at_ + 1)]
  have lt := (List.getElem?_eq_some_iff.mp e).1
  have a : (([(nm, at_)] : List (Nat × Nat)).map fun p => (U p.1).length + 1 - p.2).sum = (U nm).length + 1 - at_ := rfl
  have b : (([(nm, at_ + 1)] : List (Nat × Nat)).map fun p => (U p.1).length + 1 - p.2).sum = (U nm).length + 1 - (at_ + 1) := rfl
  omega
theorem MG.new (g : Gf U N) (h : MG U N pre x done (stk ++ [(nm, at_)]) ks) {u : Nat} (e : (U nm)[at_]? = some u) (m : u ∉ met pre done (stk ++ [(nm, at_)])) (v : V) :
    MG U N pre x done (stk ++ [(nm, at_ + 1)] ++ [(u, 0)]) (putK ks (Sum.inl (u : Int)) v) := by
  obtain ⟨a, b, c⟩ := h.sN (nm, at_) (List.mem_append_right _ List.mem_cons_self)
  have uU : u ∈ U nm := List.mem_of_getElem? e
  have uN := g.dn nm a u uU
  have em := met_at pre done stk nm at_ (at_ + 1)
  have mm : ∀ y, y ∈ met pre done (stk ++ [(nm, at_ + 1)] ++ [(u, 0)]) ↔ y = u ∨ y ∈ met pre done (stk ++ [(nm, at_)]) := fun y => by rw [met_snoc, ← em]
  have e1 : (stk ++ [(nm, at_ + 1)]).map (·.1) = (stk ++ [(nm, at_)]).map (·.1) := by
    rw [List.map_append, List.map_append]
    rfl
  have so := List.pairwise_append.mp h.so
  refine ⟨h.seen.put m uN mm (by rw [met_len, met_len, List.length_append, List.length_append, List.length_append]; rfl) v, ?_, h.kos, fun d hd w hw => (mm w).mpr (.inr (h.cl d hd w hw)), ?_, h.dn, ?_, ?_, ?_, ?_⟩
  · rw [met_new, ← em, List.nodup_append]
    refine ⟨h.nod, by simp, fun y hy z hz ez => ?_⟩
    rw [List.mem_singleton.mp hz] at ez
    have ez : y = u := ez
    subst ez
    exact m hy
  · intro p hp d hd
    rcases List.mem_append.mp hp with hp | hp
    · rcases List.mem_append.mp hp with hp | hp
      · exact h.ba p (List.mem_append_left _ hp) d hd
      · rw [List.mem_singleton.mp hp] at hd ⊢
        exact h.ba (nm, at_) (List.mem_append_right _ List.mem_cons_self) d hd
    · rw [List.mem_singleton.mp hp] at hd ⊢
      rcases hd.last with rfl | ⟨w, hw, hu⟩
      · exact .rf _
      · exact absurd (h.cl w hw u hu) m
  · intro p hp
    rcases List.mem_append.mp hp with hp | hp
    · rcases List.mem_append.mp hp with hp | hp
      · obtain ⟨a, b, c⟩ := h.sN p (List.mem_append_left _ hp)
        exact ⟨a, b, fun j w hj ew => (mm w).mpr (.inr (c j w hj ew))⟩
      · rw [List.mem_singleton.mp hp]
        refine ⟨a, (List.getElem?_eq_some_iff.mp e).1, fun j w hj ew => (mm w).mpr ?_⟩
        by_cases k : j < at_
        · exact .inr (c j w k ew)
        · have : j = at_ := by
            have : j < at_ + 1 := hj
            omega
          subst this
          have ew : (U nm)[j]? = some w := ew
          rw [e] at ew
          cases ew
          exact .inl rfl
    · rw [List.mem_singleton.mp hp]
      exact ⟨uN, Nat.zero_le _, fun j w hj => absurd hj (Nat.not_lt_zero _)⟩
  · refine List.pairwise_append.mpr ⟨List.pairwise_append.mpr ⟨so.1, List.pairwise_singleton _ _, fun p hp q hq => ?_⟩, List.pairwise_singleton _ _, fun p hp q hq => ?_⟩
    · rw [List.mem_singleton.mp hq]
      exact so.2.2 p hp (nm, at_) List.mem_cons_self
    · rw [List.mem_singleton.mp hq]
      rcases List.mem_append.mp hp with hp | hp
      · exact (so.2.2 p hp (nm, at_) List.mem_cons_self).trans (.one uU)
      · rw [List.mem_singleton.mp hp]
        exact .one uU
  · intro y hy
    rw [List.map_append, e1, List.mem_append] at hy
    rcases hy with hy | hy | hy
    · exact h.av y (.inl hy)
    · exact h.av y (.inr hy)
    · have hy : y ∈ [u] := hy
      rw [List.mem_singleton.mp hy]
      refine .step (h.av nm (.inr ?_)) uU fun z => m (mem_met.mpr (.inl z))
      rw [List.map_append]
      exact List.mem_append_right _ List.mem_cons_self
  · rw [List.map_append, e1]
    rcases h.fx with k | k
    · exact .inl k
    · exact .inr (List.mem_append_left _ k)
theorem new_lt (uN : (u : Nat) → u ∈ U nm → u ∈ N) {u : Nat} (e : (U nm)[at_]? = some u) (m : u ∉ met pre done (stk ++ [(nm, at_)])) :
    meas U N (met pre done (stk ++ [(nm, at_ + 1)] ++ [(u, 0)])) (stk ++ [(nm, at_ + 1)] ++ [(u, 0)]) < meas U N (met pre done (stk ++ [(nm, at_)])) (stk ++ [(nm, at_)]) := by
  have uN := uN u (List.mem_of_getElem? e)
  have lt := (List.getElem?_eq_some_iff.mp e).1
  unfold meas
  rw [List.map_append, List.sum_append, List.map_append, List.sum_append, List.map_append, List.sum_append]
  have le := usum_more (f := fun y => (U y).length + 2) m (S' := met pre done (stk ++ [(nm, at_ + 1)] ++ [(u, 0)])) (fun y => by rw [met_snoc, met_snoc, met_snoc]) N uN
  have a1 : (([(nm, at_)] : List (Nat × Nat)).map fun p => (U p.1).length + 1 - p.2).sum = (U nm).length + 1 - at_ := rfl
  have b1 : (([(nm, at_ + 1)] : List (Nat × Nat)).map fun p => (U p.1).length + 1 - p.2).sum = (U nm).length + 1 - (at_ + 1) := rfl
  have c1 : (([(u, 0)] : List (Nat × Nat)).map fun p => (U p.1).length + 1 - p.2).sum = (U u).length + 1 := rfl
  have le : usum (fun y => (U y).length + 2) (met pre done (stk ++ [(nm, at_ + 1)] ++ [(u, 0)])) N + ((U u).length + 2) ≤ _ := le
  omega
/-- what is done in the end: all that x leads to behind pre -/
theorem MG.all (h : MG U N pre x done [] ks) : ∀ y, y ∈ done ↔ Apt U pre x y := fun y => by
  refine ⟨fun hy => h.av y (.inl hy), fun a => ?_⟩
  induction a with
  | here _ => exact h.fx.resolve_right fun z => by cases z
  | @step y z _ hz nz ih =>
    have k := h.cl y (List.mem_append_right _ ih) z hz
    rw [mem_met] at k
    rcases k with k | k | k
    · exact absurd k nz
    · exact k
    · cases k
end

end K48
namespace K48
open PySem PySem.Spec PyProof.Rows L2 V0
def topS (i : Nat) : Stmt := PySem.Challenge.pw_cellcloth_k48_whole_runs_of_cells.main.body.getD i (.Pass ⟨0, 0, 0, 0⟩)
abbrev s__law_state : Stmt := topS 21
abbrev N__law_state : List Str := ["script", "seed", "cell"]
theorem sc_law_state : FnScope ["script", "seed", "cell"] ["script"] (defScope s__law_state) := ⟨rfl, rfl, rfl, by decide +kernel, rfl, by decide +kernel, by decide +kernel⟩
abbrev s__law_draw : Stmt := topS 22
abbrev N__law_draw : List Str := ["state", "many", "cells", "value", "mixed"]
theorem sc_law_draw : FnScope ["state", "many", "cells", "value", "mixed"] ["state", "many"] (defScope s__law_draw) := ⟨rfl, rfl, rfl, by decide +kernel, rfl, by decide +kernel, by decide +kernel⟩
abbrev s__law_pick : Stmt := topS 23
abbrev N__law_pick : List Str := ["state", "row"]
theorem sc_law_pick : FnScope ["state", "row"] ["state", "row"] (defScope s__law_pick) := ⟨rfl, rfl, rfl, by decide +kernel, rfl, by decide +kernel, by decide +kernel⟩
abbrev s__law_source : Stmt := topS 24
abbrev N__law_source : List Str := ["state", "ins", "many", "wild", "rows", "k"]
theorem sc_law_source : FnScope ["state", "ins", "many", "wild", "rows", "k"] ["state", "ins", "many", "wild"] (defScope s__law_source) := ⟨rfl, rfl, rfl, by decide +kernel, rfl, by decide +kernel, by decide +kernel⟩
abbrev s__law_cells : Stmt := topS 25
abbrev N__law_cells : List Str := ["state", "ins", "many", "wild", "deep", "rows", "k", "size", "reach", "sources", "kept", "start", "table", "outs", "j"]
theorem sc_law_cells : FnScope ["state", "ins", "many", "wild", "deep", "rows", "k", "size", "reach", "sources", "kept", "start", "table", "outs", "j"] ["state"] (defScope s__law_cells) := ⟨rfl, rfl, rfl, by decide +kernel, rfl, by decide +kernel, by decide +kernel⟩
abbrev s__law_there : Stmt := topS 26
abbrev N__law_there : List Str := ["cells", "source"]
theorem sc_law_there : FnScope ["cells", "source"] ["cells", "source"] (defScope s__law_there) := ⟨rfl, rfl, rfl, by decide +kernel, rfl, by decide +kernel, by decide +kernel⟩
abbrev s__law_fault : Stmt := topS 27
abbrev N__law_fault : List Str := ["cells", "k", "cell", "good", "source"]
theorem sc_law_fault : FnScope ["cells", "k", "cell", "good", "source"] ["cells"] (defScope s__law_fault) := ⟨rfl, rfl, rfl, by decide +kernel, rfl, by decide +kernel, by decide +kernel⟩
abbrev s__is_there : Stmt := topS 14
abbrev N__is_there : List Str := ["cells", "source", "many"]
theorem sc_is_there : FnScope ["cells", "source", "many"] ["cells", "source"] (defScope s__is_there) := ⟨rfl, rfl, rfl, by decide +kernel, rfl, by decide +kernel, by decide +kernel⟩
abbrev s__cell_right : Stmt := topS 13
abbrev N__cell_right : List Str := ["cells", "cell", "_", "sources", "table", "kept", "start", "source"]
theorem sc_cell_right : FnScope ["cells", "cell", "_", "sources", "table", "kept", "start", "source"] ["cells", "cell"] (defScope s__cell_right) := ⟨rfl, rfl, rfl, by decide +kernel, rfl, by decide +kernel, by decide +kernel⟩
abbrev s__finished_from : Stmt := topS 7
abbrev N__finished_from : List Str := ["first", "uses", "seen", "done", "stack", "name", "at", "other"]
theorem sc_finished_from : FnScope ["first", "uses", "seen", "done", "stack", "name", "at", "other"] ["first", "uses", "seen"] (defScope s__finished_from) := ⟨rfl, rfl, rfl, by decide +kernel, rfl, by decide +kernel, by decide +kernel⟩
abbrev s_finished : Stmt := topS 5
abbrev N_finished : List Str := ["names", "uses", "done", "seen", "name"]
theorem scfinished : FnScope ["names", "uses", "done", "seen", "name"] ["names", "uses"] (defScope s_finished) := ⟨rfl, rfl, rfl, by decide +kernel, rfl, by decide +kernel, by decide +kernel⟩
abbrev s_on_circles : Stmt := topS 6
abbrev N_on_circles : List Str := ["names", "uses", "name", "users", "other", "found", "seen", "group"]
theorem scon_circles : FnScope ["names", "uses", "name", "users", "other", "found", "seen", "group"] ["names", "uses"] (defScope s_on_circles) := ⟨rfl, rfl, rfl, by decide +kernel, rfl, by decide +kernel, by decide +kernel⟩
abbrev s__uses : Stmt := topS 15
abbrev N__uses : List Str := ["rows", "uses", "j", "_", "sources", "source"]
theorem sc_uses : FnScope ["rows", "uses", "j", "_", "sources", "source"] ["rows"] (defScope s__uses) := ⟨rfl, rfl, rfl, by decide +kernel, rfl, by decide +kernel, by decide +kernel⟩
abbrev s_check_cells : Stmt := topS 10
abbrev N_check_cells : List Str := ["cells", "_", "rows", "outs", "j", "cell", "k", "source", "places"]
theorem sccheck_cells : FnScope ["cells", "_", "rows", "outs", "j", "cell", "k", "source", "places"] ["cells"] (defScope s_check_cells) := ⟨rfl, rfl, rfl, by decide +kernel, rfl, by decide +kernel, by decide +kernel⟩
abbrev s__law_circles : Stmt := topS 28
abbrev N__law_circles : List Str := ["cells", "many", "reach", "k", "row", "turn", "other", "one"]
theorem sc_law_circles : FnScope ["cells", "many", "reach", "k", "row", "turn", "other", "one"] ["cells"] (defScope s__law_circles) := ⟨rfl, rfl, rfl, by decide +kernel, rfl, by decide +kernel, by decide +kernel⟩
abbrev s__law_table : Stmt := topS 30
abbrev N__law_table : List Str := ["cells", "at", "held", "bits", "number", "k"]
theorem sc_law_table : FnScope ["cells", "at", "held", "bits", "number", "k"] ["cells", "at", "held", "bits"] (defScope s__law_table) := ⟨rfl, rfl, rfl, by decide +kernel, rfl, by decide +kernel, by decide +kernel⟩
abbrev s__law_bit : Stmt := topS 29
abbrev N__law_bit : List Str := ["cells", "source", "held", "bits"]
theorem sc_law_bit : FnScope ["cells", "source", "held", "bits"] ["cells", "source", "held", "bits"] (defScope s__law_bit) := ⟨rfl, rfl, rfl, by decide +kernel, rfl, by decide +kernel, by decide +kernel⟩
abbrev s__bit_of : Stmt := topS 19
abbrev N__bit_of : List Str := ["source", "outputs", "bits"]
theorem sc_bit_of : FnScope ["source", "outputs", "bits"] ["source", "outputs", "bits"] (defScope s__bit_of) := ⟨rfl, rfl, rfl, by decide +kernel, rfl, by decide +kernel, by decide +kernel⟩
abbrev s__table_bit : Stmt := topS 18
abbrev N__table_bit : List Str := ["cell", "outputs", "bits", "number", "at", "source"]
theorem sc_table_bit : FnScope ["cell", "outputs", "bits", "number", "at", "source"] ["cell", "outputs", "bits"] (defScope s__table_bit) := ⟨rfl, rfl, rfl, by decide +kernel, rfl, by decide +kernel, by decide +kernel⟩
abbrev s__stepped : Stmt := topS 17
abbrev N__stepped : List Str := ["cells", "order", "state", "bits", "_", "rows", "outs", "outputs", "j", "after", "cell", "source"]
theorem sc_stepped : FnScope ["cells", "order", "state", "bits", "_", "rows", "outs", "outputs", "j", "after", "cell", "source"] ["cells", "order", "state", "bits"] (defScope s__stepped) := ⟨rfl, rfl, rfl, by decide +kernel, rfl, by decide +kernel, by decide +kernel⟩
abbrev s__order : Stmt := topS 16
abbrev N__order : List Str := ["cells", "rows", "j", "cell"]
theorem sc_order : FnScope ["cells", "rows", "j", "cell"] ["cells"] (defScope s__order) := ⟨rfl, rfl, rfl, by decide +kernel, rfl, by decide +kernel, by decide +kernel⟩
abbrev s_step_cells : Stmt := topS 11
abbrev N_step_cells : List Str := ["cells", "state", "bits"]
theorem scstep_cells : FnScope ["cells", "state", "bits"] ["cells", "state", "bits"] (defScope s_step_cells) := ⟨rfl, rfl, rfl, by decide +kernel, rfl, by decide +kernel, by decide +kernel⟩
abbrev s_run_cells : Stmt := topS 12
abbrev N_run_cells : List Str := ["cells", "rows", "order", "state", "told", "bits", "row", "_", "start"]
theorem scrun_cells : FnScope ["cells", "rows", "order", "state", "told", "bits", "row", "_", "start"] ["cells", "rows"] (defScope s_run_cells) := ⟨rfl, rfl, rfl, by decide +kernel, rfl, by decide +kernel, by decide +kernel⟩
abbrev s_law : Stmt := topS 31
abbrev N_law : List Str := ["script", "state", "cells", "before", "fault", "told", "e", "rows", "held", "due", "bits", "outs", "after", "j", "cell", "k", "source"]
theorem sclaw : FnScope ["script", "state", "cells", "before", "fault", "told", "e", "rows", "held", "due", "bits", "outs", "after", "j", "cell", "k", "source"] ["script"] (defScope s_law) := ⟨rfl, rfl, rfl, by decide +kernel, rfl, by decide +kernel, by decide +kernel⟩
abbrev s_XKindError : Stmt := inClass (topS 2) 0
theorem sc_XKindError : FnScope ["self", "place"] ["self", "place"] (defScope s_XKindError) := ⟨rfl, rfl, rfl, by decide +kernel, rfl, by decide +kernel, by decide +kernel⟩
abbrev s_XLoopError : Stmt := inClass (topS 3) 0
theorem sc_XLoopError : FnScope ["self", "places"] ["self", "places"] (defScope s_XLoopError) := ⟨rfl, rfl, rfl, by decide +kernel, rfl, by decide +kernel, by decide +kernel⟩
structure Txt (K : PySem.W.Frag) (mg : Str → Option Value) (C_KindError fI_KindError : Addr) (fd_KindError : FuncData) (C_LoopError fI_LoopError : Addr) (fd_LoopError : FuncData) (B_ : Addr) (mc_ : Value) (tk_MOST_SOURCES : Tok) : Prop where
  xb : ExcB K mg "ClothError" B_ mc_
  bc : PySem.W.isClsIn K B_ = true
  bt : PySem.W.typeIn K (.ref B_) = some (.type "type")
  x_KindError : Exc K mg "KindError" C_KindError fI_KindError fd_KindError "place"
  i_KindError : ExcI K C_KindError
  sb_KindError : PySem.W.subIn K (.ref C_KindError) (.ref B_) = some true
  sv_KindError : PySem.W.subIn K (.ref C_KindError) (.type "ValueError") = some true
  x_LoopError : Exc K mg "LoopError" C_LoopError fI_LoopError fd_LoopError "places"
  i_LoopError : ExcI K C_LoopError
  sb_LoopError : PySem.W.subIn K (.ref C_LoopError) (.ref B_) = some true
  sv_LoopError : PySem.W.subIn K (.ref C_LoopError) (.type "ValueError") = some true
  xn_KindError_LoopError : PySem.W.subIn K (.ref C_KindError) (.ref C_LoopError) = some false
  xn_LoopError_KindError : PySem.W.subIn K (.ref C_LoopError) (.ref C_KindError) = some false
  m_MOST_SOURCES : mg "MOST_SOURCES" = some (.int (4) tk_MOST_SOURCES)
  m_abs : mg "abs" = none
  m_all : mg "all" = none
  m_any : mg "any" = none
  m_enumerate : mg "enumerate" = none
  m_int : mg "int" = none
  m_isinstance : mg "isinstance" = none
  m_len : mg "len" = none
  m_list : mg "list" = none
  m_min : mg "min" = none
  m_range : mg "range" = none
  m_repr : mg "repr" = none
  m_reversed : mg "reversed" = none
  m_set : mg "set" = none
  m_sorted : mg "sorted" = none
  m_str : mg "str" = none
  m_sum : mg "sum" = none
end K48
namespace K48
open PySem PySem.Spec PyProof.Rows L2 V0
theorem vn_snoc' (xs : List Nat) (x : Nat) : vn xs ++ [V.int (x : Nat)] = vn (xs ++ [x]) := by
  unfold vn
  rw [List.map_append]
  rfl
/-- a list of names that are finished -/
structure Fin (U : Nat → List Nat) (l : List Nat) : Prop where
  kos : Kos U l
  nod : l.Nodup
  cl : ∀ d ∈ l, ∀ u ∈ U d, u ∈ l
theorem Fin.nil (U : Nat → List Nat) : Fin U [] := ⟨.nil, List.nodup_nil, fun d h => by cases h⟩
theorem MG.fin {U : Nat → List Nat} {N pre : List Nat} {x : Nat} {done : List Nat} {ks : List (Key × V)} (h : MG U N pre x done [] ks) : Fin U (pre ++ done) := by
  have e0 : met pre done [] = pre ++ done := List.append_nil _
  have n := h.nod
  have c := h.cl
  rw [e0] at n c
  exact ⟨h.kos, n, c⟩
/-- all but three things that change -/
def fz (p q r : Addr) (H : Hp) : Hp := fun b => if b = p ∨ b = q ∨ b = r then none else H b
theorem fz_some {p q r b : Addr} {H : Hp} {o : HO} (h : fz p q r H b = some o) : (b ≠ p ∧ b ≠ q ∧ b ≠ r) ∧ H b = some o := by
  unfold fz at h
  by_cases c : b = p ∨ b = q ∨ b = r
  · rw [if_pos c] at h
    cases h
  · rw [if_neg c] at h
    exact ⟨⟨fun e => c (.inl e), fun e => c (.inr (.inl e)), fun e => c (.inr (.inr e))⟩, h⟩
theorem fz_of {p q r b : Addr} {H : Hp} {o : HO} (h1 : b ≠ p) (h2 : b ≠ q) (h3 : b ≠ r) (h : H b = some o) : fz p q r H b = some o := by
  unfold fz
  rw [if_neg (fun e => e.elim h1 fun e => e.elim h2 h3)]
  exact h
theorem fz_mono {p q r : Addr} {H H' : Hp} (s : Same H H') : Same (fz p q r H) (fz p q r H') := fun b o h => by
  obtain ⟨⟨h1, h2, h3⟩, e⟩ := fz_some h
  exact fz_of h1 h2 h3 (s _ _ e)
theorem fz_mut {p q r b : Addr} {H : Hp} {o : HO} (h : b = p ∨ b = q ∨ b = r) : Same (fz p q r H) (fz p q r (upd H b o)) := fun d u e => by
  obtain ⟨⟨h1, h2, h3⟩, e⟩ := fz_some e
  refine fz_of h1 h2 h3 ?_
  rw [upd_ne (fun z => by subst z; exact h.elim h1 fun z => z.elim h2 h3)]
  exact e
theorem fz_up {p q r : Addr} {H : Hp} : Same (fz p q r H) H := fun b o h => (fz_some h).2
/-- a dict of lists of names -/
def UAt (H : Hp) (a : Addr) (U : Nat → List Nat) (N : List Nat) : Prop := ∃ kvs : List (Key × V), H a = some (.dK kvs) ∧ ∀ x ∈ N, ∃ l, valV kvs (Sum.inl (x : Int)) = some (.ref l) ∧ H l = some (.lst (vn (U x)))
theorem UAt.same {H H' : Hp} {a : Addr} {U : Nat → List Nat} {N : List Nat} (h : UAt H a U N) (s : Same H H') : UAt H' a U N := by
  obtain ⟨kvs, e, f⟩ := h
  refine ⟨kvs, s _ _ e, fun x hx => ?_⟩
  obtain ⟨l, e1, e2⟩ := f x hx
  exact ⟨l, e1, s _ _ e2⟩
theorem dget_k {H : Hp} {a : Addr} {kvs : List (Key × V)} {x : Nat} {v : V} (e : H a = some (.dK kvs)) (h : valV kvs (Sum.inl (x : Int)) = some v) : DGet H a (.int (x : Int)) (some v) := by
  rw [← h]
  exact DGet.k (k := Sum.inl (x : Int)) e
theorem dvs_last {H : Hp} {us : List V} {stk : List (Nat × Nat)} {p : Nat × Nat} (h : Dvs H us (stk ++ [p])) : ∃ us0 t, us = us0 ++ [.ref t] ∧ Dvs H us0 stk ∧ H t = some (.tup [.int (p.1 : Nat), .int (p.2 : Nat)]) := by
  induction stk generalizing us with
  | nil =>
    obtain ⟨v, us', rfl, h1, h2⟩ := Dvs.cons_inv h
    have := h2.nil_inv
    subst this
    obtain ⟨t, u1, u2, rfl, ht, e1, e2⟩ := h1.pair_inv
    rw [e1.nat_inv, e2.nat_inv] at ht
    exact ⟨[], t, rfl, .nil, ht⟩
  | cons q stk ih =>
    obtain ⟨v, us', rfl, h1, h2⟩ := Dvs.cons_inv h
    obtain ⟨us0, t, rfl, h3, h4⟩ := ih h2
    exact ⟨v :: us0, t, rfl, .cons h1 h3, h4⟩
structure FI (H Hx : Hp) (D st sn : Addr) (done : List Nat) (us : List V) (stk : List (Nat × Nat)) (ks : List (Key × V)) : Prop where
  d : Hx D = some (.lst (vn done))
  t : Hx st = some (.lst us)
  s : Hx sn = some (.dK ks)
  pr : Dvs (fz D st sn Hx) us stk
  k : Same (fz D st sn H) (fz D st sn Hx)
def sp__finished_from (K : PySem.W.Frag) : Sp := fun vs H Q _ => ∃ (x : Nat) (a sn : Addr) (U : Nat → List Nat) (N pre : List Nat) (ks : List (Key × V)), vs = [.int (x : Nat), .ref a, .ref sn] ∧ Gf U N ∧ UAt (hid sn H) a U N ∧
  H sn = some (.dK ks) ∧ Seen ks N pre ∧ Fin U pre ∧ x ∈ N ∧ x ∉ pre ∧
  ∀ H' l ks' (done : List Nat), Same (hid sn H) (hid sn H') → H l = none → H' l = some (.lst (vn done)) → H' sn = some (.dK ks') → Seen ks' N (pre ++ done) → Fin U (pre ++ done) → (∀ y, y ∈ done ↔ Apt U pre x y) → (∀ y ∈ done, y ∈ N) → Q (.ref l) H'
theorem ok__finished_from {P : Program} {w : World} {K : PySem.W.Frag} {mg : Str → Option Value} {base : Heap} {C_KindError fI_KindError : Addr} {fd_KindError : FuncData} {C_LoopError fI_LoopError : Addr} {fd_LoopError : FuncData} {B_ : Addr} {mc_ : Value} {tk_MOST_SOURCES : Tok} {f  : Addr} {fd  : FuncData} (F : Fun K "_finished_from" "_finished_from" s__finished_from f fd) (T : Txt K mg C_KindError fI_KindError fd_KindError C_LoopError fI_LoopError fd_LoopError B_ mc_ tk_MOST_SOURCES) :
    FnOk P w K mg base CX0 1 f fd ["first", "uses", "seen"] (sp__finished_from K) := by
  refine F.ok sc_finished_from (fun vs H Q E h => ?_) (fun cdv A outer s H vs Q E hr h => ?_)
  · obtain ⟨x, a, sn, U, N, pre, ks, rfl, _⟩ := h
    rfl
  · obtain ⟨x, a, sn, U, N, pre, ks, rfl, g, hU, hs, hks, htp, xN, xP, q⟩ := h
    have few := g.few
    have bigN : ∀ {ks : List (Key × V)} {S : List Nat}, Seen ks N S → ks.length ≤ 1000 ∧ S.length ≤ 1000 := fun h => by
      have := h.n
      have := h.m
      omega
    refine ⟨_, (pss_cons (ps_set (i := 3) sc_finished_from.nd rfl (.inl rfl) (pe_lst pa_nil))
      (pss_cons (ps_set (i := 4) sc_finished_from.nd rfl (.inl rfl) (pe_lst (pa_cons (pe_tup (pa_cons (pv 0) (pa_cons pe_int pa_nil))) pa_nil)))
      (pss_cons (ps_dput (hu_of hr) (pv 2) (pv 0) pe_bl rfl)
      (C8.pss_cut (ps_while PassesOwn.never (pt_truthK (K := K) rfl (pv 4) (by intro _; rfl)) (pss_cons (ps_asg (pe_bm0 PySem.F.plainAttrs_list PySem.F.slot_list_pop PySem.F.type_list_pop mt_pop (pv 4)) (pg_tup (by rfl) (pgs_cons (pg_name (i := 5) sc_finished_from.nd rfl (Or.inl rfl)) (pgs_cons (pg_name (i := 6) sc_finished_from.nd rfl (Or.inl rfl)) pgs_nil))))
      (pss_cons (ps_if (pt_cmpR op_eq (pv 6) (pe_callB call_len_seq (by rfl) T.m_len (by decide +kernel) (pa_cons (pe_dget (hu_of hr) (pv 1) (pv 5) (fun _ _ => rfl)) pa_nil)) (nomark _)) (pss_cons (ps_expr (pe_bm PySem.F.plainAttrs_list PySem.F.slot_list_append PySem.F.type_list_append mt_append (pv 3) (pa_cons (pv 5) pa_nil)))
      (pss_one ps_continue)) pss_nil)
      (pss_cons (ps_expr (pe_bm PySem.F.plainAttrs_list PySem.F.slot_list_append PySem.F.type_list_append mt_append (pv 4) (pa_cons (pe_tup (pa_cons (pv 5) (pa_cons (pe_op op_add (pv 6) pe_int) pa_nil))) pa_nil)))
      (pss_cons (ps_set (i := 7) sc_finished_from.nd rfl (.inl rfl) (pe_ix (r := rIxL K) ix_list (pe_dget (hu_of hr) (pv 1) (pv 5) (fun _ _ => rfl)) (pv 6) (fun _ _ => rfl)))
      (pss_one (ps_if (pt_cmp (pc_dnotin (hu_of hr) (pv 7) (pv 2))) (pss_cons (ps_dput (hu_of hr) (pv 2) (pv 7) pe_bl rfl)
      (pss_one (ps_expr (pe_bm PySem.F.plainAttrs_list PySem.F.slot_list_append PySem.F.type_list_append mt_append (pv 4) (pa_cons (pe_tup (pa_cons (pv 7) (pa_cons pe_int pa_nil))) pa_nil))))) pss_nil)))))))
      (pss_one (ps_ret (pv 3))))))), ?_⟩
    refine ⟨by show 0 ≤ sizeLine; decide, fun D nD => ?_⟩
    have Dsn : D ≠ sn := (ne_of_none hs nD).symm
    have s1 := same_new (o := .lst []) nD
    have eD : (upd H D (.lst [])) D = some (.lst []) := upd_same
    generalize (upd H D (.lst [])) = H1 at s1 eD ⊢
    refine ⟨_, rfl, by show 2 ≤ sizeLine; decide, fun t nt => ⟨by show 1 ≤ sizeLine; decide, fun st nst => ?_⟩⟩
    have tD : t ≠ D := (ne_of_none eD nt).symm
    have tsn : t ≠ sn := (ne_of_none (s1 _ _ hs) nt).symm
    have s2 := same_new (o := .tup [.int (x : Nat), .int 0]) nt
    have et : (upd H1 t (.tup [.int (x : Nat), .int 0])) t = some (.tup [.int (x : Nat), .int 0]) := upd_same
    have eD := s2 _ _ eD
    have s2 := s1.trans s2
    generalize (upd H1 t (.tup [.int (x : Nat), .int 0])) = H2 at s2 et eD nst ⊢
    have stD : st ≠ D := (ne_of_none eD nst).symm
    have stsn : st ≠ sn := (ne_of_none (s2 _ _ hs) nst).symm
    have tst : t ≠ st := ne_of_none et nst
    have s3 := same_new (o := .lst [.ref t]) nst
    have est : (upd H2 st (.lst [.ref t])) st = some (.lst [.ref t]) := upd_same
    have eD := s3 _ _ eD
    have et := s3 _ _ et
    have nst0 : H st = none := none_of s2 nst
    have s3 := s2.trans s3
    generalize (upd H2 st (.lst [.ref t])) = H3 at s3 est et eD ⊢
    refine ⟨_, rfl, _, rfl, sn, _, rfl, DPut.k (k := Sum.inl (x : Int)) (s3 _ _ hs) (Nat.lt_of_le_of_lt (bigN hks).1 (by decide)), ?_⟩
    have hx0 : ∀ y, y ∈ met pre [] [(x, 0)] ↔ y = x ∨ y ∈ pre := fun y => by
      rw [mem_met]
      show _ ∨ y ∈ [] ∨ y ∈ [x] ↔ _
      rw [List.mem_singleton]
      constructor
      · rintro (h | h | h)
        · exact .inr h
        · cases h
        · exact .inl h
      · rintro (h | h)
        · exact .inr (.inr h)
        · exact .inl h
    have mi0 : MG U N pre x [] [(x, 0)] (putK ks (Sum.inl (x : Int)) (.bl true)) := by
      have e0 : pre ++ [] = pre := List.append_nil _
      refine ⟨hks.put xP xN hx0 (by rw [met_len]; rfl) _, ?_, by rw [e0]; exact htp.kos, fun d hd u hu => ?_, fun p hp d hd => ?_, (fun y hy => by cases hy), fun p hp => ?_, List.pairwise_singleton _ _, fun y hy => ?_, .inr List.mem_cons_self⟩
      · show (pre ++ [] ++ [x]).Nodup
        rw [e0, List.nodup_append]
        refine ⟨htp.nod, by simp, fun y hy z hz ez => ?_⟩
        rw [List.mem_singleton.mp hz] at ez
        exact xP (ez ▸ hy)
      · rw [e0] at hd
        exact mem_met.mpr (.inl (htp.cl d hd u hu))
      · rw [List.mem_singleton.mp hp] at hd ⊢
        rw [e0] at hd
        rcases hd.last with rfl | ⟨w, hw, hu⟩
        · exact .rf _
        · exact absurd (htp.cl w hw x hu) xP
      · rw [List.mem_singleton.mp hp]
        exact ⟨xN, Nat.zero_le _, fun j w hj => absurd hj (Nat.not_lt_zero _)⟩
      · rcases hy with hy | hy
        · cases hy
        · have hy : y ∈ [x] := hy
          rw [List.mem_singleton.mp hy]
          exact .here xP
    have fi0 : FI H (upd H3 sn (.dK (putK ks (Sum.inl (x : Int)) (.bl true)))) D st sn [] [.ref t] [(x, 0)] (putK ks (Sum.inl (x : Int)) (.bl true)) := by
      refine ⟨by rw [upd_ne Dsn]; exact eD, by rw [upd_ne stsn]; exact est, upd_same, .cons (.pair (a := t) (fz_of tD tst tsn (by rw [upd_ne tsn]; exact et)) (.nat _) (.nat _)) .nil, fun b o e => ?_⟩
      obtain ⟨⟨h1, h2, h3⟩, e⟩ := fz_some e
      exact fz_of h1 h2 h3 (by rw [upd_ne h3]; exact s3 _ _ e)
    generalize (upd H3 sn (.dK (putK ks (Sum.inl (x : Int)) (.bl true)))) = H4 at fi0 ⊢
    have hU0 : ∀ Hx, Same (fz D st sn H) (fz D st sn Hx) → UAt Hx a U N := fun Hx k => by
      obtain ⟨kvs, e, f⟩ := hU
      have up : ∀ b o, hid sn H b = some o → Hx b = some o := fun b o z => by
        obtain ⟨z1, z2⟩ := hid_some z
        exact fz_up _ _ (k _ _ (fz_of (ne_of_none z2 nD) (ne_of_none z2 nst0) z1 z2))
      refine ⟨kvs, up _ _ e, fun y hy => ?_⟩
      obtain ⟨l, e1, e2⟩ := f y hy
      exact ⟨l, e1, up _ _ e2⟩
    refine ⟨fun σ Hx => ∃ (y5 y6 y7 : Option V) (done : List Nat) (ks' : List (Key × V)), σ = [some (.int (x : Nat)), some (.ref a), some (.ref sn), some (.ref D), some (.ref st), y5, y6, y7] ∧ FI H Hx D st sn done [] [] ks' ∧ MG U N pre x done [] ks', ?_, ?_⟩
    · refine ⟨fun m σ Hx => ∃ (y5 y6 y7 : Option V) (done : List Nat) (us : List V) (stk : List (Nat × Nat)) (ks' : List (Key × V)), σ = [some (.int (x : Nat)), some (.ref a), some (.ref sn), some (.ref D), some (.ref st), y5, y6, y7] ∧ FI H Hx D st sn done us stk ks' ∧ MG U N pre x done stk ks' ∧ m = meas U N (met pre done stk) stk, ⟨_, none, none, none, [], _, _, _, rfl, fi0, mi0, rfl⟩, ?_⟩
      rintro m σ Hx ⟨y5, y6, y7, done, us, stk, ks', rfl, fi, mi, rfl⟩
      refine ⟨_, rfl, !us.isEmpty, .inl ⟨us, SqL.of fi.t, rfl⟩, ?_⟩
      rcases List.eq_nil_or_concat stk with rfl | ⟨stk0, ⟨nm, at_⟩, rfl⟩
      · have e0 := fi.pr.nil_inv
        subst e0
        exact iteF ⟨y5, y6, y7, done, ks', rfl, fi, mi⟩
      · rw [List.concat_eq_append] at fi mi ⊢
        obtain ⟨us0, t, rfl, pr0, ht⟩ := dvs_last fi.pr
        obtain ⟨nN, atl, _⟩ := mi.sN (nm, at_) (List.mem_append_right _ List.mem_cons_self)
        have big := bigN mi.seen
        rw [met_len, List.length_append, show ([(nm, at_)] : List (Nat × Nat)).length = 1 from rfl] at big
        have lus : us0.length = stk0.length := pr0.len
        rw [show (!(us0 ++ [V.ref t]).isEmpty) = true by cases us0 <;> rfl]
        refine iteT ⟨fun σ' H' => ∃ m', m' < meas U N (met pre done (stk0 ++ [(nm, at_)])) (stk0 ++ [(nm, at_)]) ∧ ∃ (y5 y6 y7 : Option V) (done : List Nat) (us : List V) (stk : List (Nat × Nat)) (ks' : List (Key × V)), σ' = [some (.int (x : Nat)), some (.ref a), some (.ref sn), some (.ref D), some (.ref st), y5, y6, y7] ∧ FI H H' D st sn done us stk ks' ∧ MG U N pre x done stk ks' ∧ m' = meas U N (met pre done stk) stk, fun σ' H' z => z, ?_⟩
        refine ⟨_, rfl, .inl ⟨rfl, _, SqL.of fi.t⟩, st, _, .ref t, rfl, rfl, fi.t, by rw [List.length_append]; show (us0 ++ [V.ref t])[us0.length + 1 - 1]? = _; rw [Nat.add_sub_cancel, List.getElem?_append_right (Nat.le_refl _), Nat.sub_self]; rfl, ?_⟩
        rw [List.dropLast_concat]
        -- the stack without its last
        have f1 : FI H (upd Hx st (.lst us0)) D st sn done us0 stk0 ks' := ⟨by rw [upd_ne stD.symm]; exact fi.d, upd_same, by rw [upd_ne stsn.symm]; exact fi.s, pr0.same (fz_mut (.inr (.inl rfl))), fi.k.trans (fz_mut (.inr (.inl rfl)))⟩
        have ht : (upd Hx st (.lst us0)) t = some (.tup [.int (nm : Nat), .int (at_ : Nat)]) := (fz_some (fz_mut (.inr (.inl rfl)) _ _ ht)).2
        generalize (upd Hx st (.lst us0)) = Ha at f1 ht ⊢
        refine ⟨t, _, rfl, SqT.of ht, rfl, _, _, rfl, _, _, rfl, rfl, ?_⟩
        obtain ⟨kvs, hkv, hul⟩ := hU0 Ha f1.k
        obtain ⟨l, el, hl⟩ := hul nm nN
        refine ⟨_, rfl, _, rfl, _, rfl, a, _, rfl, dget_k hkv el, l, _, rfl, .inl (SqL.of hl), rfl, _, rfl, ?_⟩
        rw [vn_len, show decide (V.int ((at_ : Nat) : Int) = V.int (((U nm).length : Nat) : Int)) = decide (at_ = (U nm).length) from dec_nat _ _]
        by_cases c : at_ = (U nm).length
        · rw [decide_eq_true c]
          refine iteT ⟨_, rfl, .inl ⟨rfl, _, SqL.of f1.d⟩, _, rfl, D, _, _, rfl, rfl, f1.d, small1000 (by rw [vn_len]; omega), ?_⟩
          rw [vn_snoc']
          exact ⟨_, pop_lt c, _, _, _, done ++ [nm], us0, stk0, ks', rfl, ⟨upd_same, by rw [upd_ne stD]; exact f1.t, by rw [upd_ne Dsn.symm]; exact f1.s, f1.pr.same (fz_mut (.inl rfl)), f1.k.trans (fz_mut (.inl rfl))⟩, mi.pop c, rfl⟩
        · rw [decide_eq_false c]
          have atlt : at_ < (U nm).length := Nat.lt_of_le_of_ne atl c
          have hu := List.getElem?_eq_getElem atlt
          generalize (U nm)[at_] = u at hu
          refine iteF ⟨_, rfl, .inl ⟨rfl, _, SqL.of f1.t⟩, _, rfl, _, rfl, _, _, rfl, rfl, by show 2 ≤ sizeLine; decide, fun t1 nt1 => ?_⟩
          have t1D := (ne_of_none f1.d nt1).symm
          have t1st := (ne_of_none f1.t nt1).symm
          have t1sn := (ne_of_none f1.s nt1).symm
          have f2 : FI H (upd Ha t1 (.tup [.int (nm : Nat), .int ((at_ : Int) + 1)])) D st sn done us0 stk0 ks' := ⟨same_new nt1 _ _ f1.d, same_new nt1 _ _ f1.t, same_new nt1 _ _ f1.s, f1.pr.same (fz_mono (same_new nt1)), f1.k.trans (fz_mono (same_new nt1))⟩
          have e1 : (upd Ha t1 (.tup [.int (nm : Nat), .int ((at_ : Int) + 1)])) t1 = some (.tup [.int (nm : Nat), .int ((at_ + 1 : Nat) : Int)]) := upd_same
          have hkv := same_new (o := .tup [.int (nm : Nat), .int ((at_ : Int) + 1)]) nt1 _ _ hkv
          have hl := same_new (o := .tup [.int (nm : Nat), .int ((at_ : Int) + 1)]) nt1 _ _ hl
          generalize (upd Ha t1 (.tup [.int (nm : Nat), .int ((at_ : Int) + 1)])) = Hb at f2 e1 hkv hl ⊢
          refine ⟨st, _, _, rfl, rfl, f2.t, small1000 (by omega), ?_⟩
          have f3 : FI H (upd Hb st (.lst (us0 ++ [.ref t1]))) D st sn done (us0 ++ [.ref t1]) (stk0 ++ [(nm, at_ + 1)]) ks' :=
            ⟨by rw [upd_ne stD.symm]; exact f2.d, upd_same, by rw [upd_ne stsn.symm]; exact f2.s, Dvs.app (f2.pr.same (fz_mut (.inr (.inl rfl)))) (.cons (.pair (a := t1) (fz_of t1D t1st t1sn (by rw [upd_ne t1st]; exact e1)) (.nat _) (.nat _)) .nil), f2.k.trans (fz_mut (.inr (.inl rfl)))⟩
          generalize (upd Hb st (.lst (us0 ++ [.ref t1]))) = Hc at f3 ⊢
          clear hkv hl el hul
          obtain ⟨kvs, hkv, hul⟩ := hU0 Hc f3.k
          obtain ⟨l, el, hl⟩ := hul nm nN
          refine ⟨_, rfl, _, rfl, a, _, rfl, dget_k hkv el, _, rfl, l, _, _, _, rfl, rfl, SqL.of hl, atI_nat (vn_get hu), ?_⟩
          refine ⟨_, rfl, _, rfl, sn, _, rfl, DGet.k (k := Sum.inl (u : Int)) f3.s, _, rfl, ?_⟩
          have si := mi.seen.i u
          by_cases c2 : u ∈ met pre done (stk0 ++ [(nm, at_)])
          · rw [si.mpr c2]
            exact iteF ⟨_, more_lt hu, _, _, _, done, _, _, ks', rfl, f3, mi.more hu c2, rfl⟩
          · rw [show (valV ks' (Sum.inl (u : Int))).isSome = false from Bool.eq_false_iff.mpr fun z => c2 (si.mp z)]
            refine iteT ⟨_, rfl, _, rfl, sn, _, rfl, DPut.k (k := Sum.inl (u : Int)) f3.s (Nat.lt_of_le_of_lt big.1 (by decide)), ?_⟩
            have f4 : FI H (upd Hc sn (.dK (putK ks' (Sum.inl (u : Int)) (.bl true)))) D st sn done (us0 ++ [.ref t1]) (stk0 ++ [(nm, at_ + 1)]) (putK ks' (Sum.inl (u : Int)) (.bl true)) :=
              ⟨by rw [upd_ne Dsn]; exact f3.d, by rw [upd_ne stsn]; exact f3.t, upd_same, f3.pr.same (fz_mut (.inr (.inr rfl))), f3.k.trans (fz_mut (.inr (.inr rfl)))⟩
            generalize (upd Hc sn (.dK (putK ks' (Sum.inl (u : Int)) (.bl true)))) = Hd at f4 ⊢
            refine ⟨_, rfl, .inl ⟨rfl, _, SqL.of f4.t⟩, _, rfl, by show 2 ≤ sizeLine; decide, fun t2 nt2 => ?_⟩
            have t2D := (ne_of_none f4.d nt2).symm
            have t2st := (ne_of_none f4.t nt2).symm
            have t2sn := (ne_of_none f4.s nt2).symm
            have f5 : FI H (upd Hd t2 (.tup [.int (u : Nat), .int 0])) D st sn done (us0 ++ [.ref t1]) (stk0 ++ [(nm, at_ + 1)]) (putK ks' (Sum.inl (u : Int)) (.bl true)) := ⟨same_new nt2 _ _ f4.d, same_new nt2 _ _ f4.t, same_new nt2 _ _ f4.s, f4.pr.same (fz_mono (same_new nt2)), f4.k.trans (fz_mono (same_new nt2))⟩
            have e2 : (upd Hd t2 (.tup [.int (u : Nat), .int 0])) t2 = some (.tup [.int (u : Nat), .int ((0 : Nat) : Int)]) := upd_same
            generalize (upd Hd t2 (.tup [.int (u : Nat), .int 0])) = He at f5 e2 ⊢
            refine ⟨st, _, _, rfl, rfl, f5.t, small1000 (by rw [List.length_append]; show us0.length + 1 ≤ 1000; omega), ?_⟩
            refine ⟨_, new_lt (g.dn nm nN) hu c2, _, _, _, done, _, stk0 ++ [(nm, at_ + 1)] ++ [(u, 0)], _, rfl, ⟨by rw [upd_ne stD.symm]; exact f5.d, upd_same, by rw [upd_ne stsn.symm]; exact f5.s, Dvs.app (f5.pr.same (fz_mut (.inr (.inl rfl)))) (.cons (.pair (a := t2) (fz_of t2D t2st t2sn (by rw [upd_ne t2st]; exact e2)) (.nat _) (.nat _)) .nil), f5.k.trans (fz_mut (.inr (.inl rfl)))⟩, mi.new g hu c2 _, rfl⟩
    · rintro σ Hx ⟨y5, y6, y7, done, ks', rfl, fi, mi⟩
      refine ⟨_, rfl, ?_⟩
      have e0 : met pre done [] = pre ++ done := List.append_nil _
      have sd := mi.seen
      rw [e0] at sd
      refine q Hx D ks' done (fun b o e => ?_) nD fi.d fi.s sd mi.fin mi.all mi.dn
      obtain ⟨z1, z2⟩ := hid_some e
      exact hid_of z1 (fz_up _ _ (fi.k _ _ (fz_of (ne_of_none z2 nD) (ne_of_none z2 nst0) z1 z2)))

end K48
namespace K48
open PySem PySem.Spec PyProof.Rows L2 V0
def sp_finished (K : PySem.W.Frag) : Sp := fun vs H Q _ => ∃ (nl a : Addr) (U : Nat → List Nat) (N : List Nat), vs = [.ref nl, .ref a] ∧ Gf U N ∧ H nl = some (.lst (vn N)) ∧ UAt H a U N ∧
  ∀ H' l (done : List Nat), Same H H' → H l = none → H' l = some (.lst (vn done)) → Fin U done → (∀ y, y ∈ done ↔ y ∈ N) → done.length ≤ 1000 → Q (.ref l) H'
theorem ok_finished {P : Program} {w : World} {K : PySem.W.Frag} {mg : Str → Option Value} {base : Heap} {C_KindError fI_KindError : Addr} {fd_KindError : FuncData} {C_LoopError fI_LoopError : Addr} {fd_LoopError : FuncData} {B_ : Addr} {mc_ : Value} {tk_MOST_SOURCES : Tok} {f f_finished_from : Addr} {fd fd_finished_from : FuncData} (F : Fun K "finished" "finished" s_finished f fd) (T : Txt K mg C_KindError fI_KindError fd_KindError C_LoopError fI_LoopError fd_LoopError B_ mc_ tk_MOST_SOURCES)
    (G__finished_from : FnOk P w K mg base CX0 1 f_finished_from fd_finished_from ["first", "uses", "seen"] (sp__finished_from K)) (D__finished_from : Def K mg "_finished_from" f_finished_from fd_finished_from ["first", "uses", "seen"]) :
    FnOk P w K mg base CX0 2 f fd ["names", "uses"] (sp_finished K) := by
  refine F.ok scfinished (fun vs H Q E h => ?_) (fun cdv A outer s H vs Q E hr h => ?_)
  · obtain ⟨nl, a, U, N, rfl, _⟩ := h
    rfl
  · obtain ⟨nl, a, U, N, rfl, g, hN, hU, q⟩ := h
    have few := g.few
    refine ⟨_, (pss_cons (ps_set (i := 2) scfinished.nd rfl (.inl rfl) (pe_lst pa_nil))
      (pss_cons (ps_set (i := 3) scfinished.nd rfl (.inl rfl) pe_dnewK)
      (pss_cons (ps_for PassesOwn.never rfl (pi_list (pv 0)) (pg_name (i := 4) scfinished.nd rfl (Or.inl rfl)) (pss_one (ps_if (pt_cmp (pc_dnotin (hu_of hr) (pv 4) (pv 3))) (pss_one (ps_expr (pe_bm PySem.F.plainAttrs_list PySem.F.slot_list_extend PySem.F.type_list_extend mt_extend (pv 2) (pa_cons (pe_call G__finished_from (hr.mono (by omega)) (by rfl) D__finished_from.m D__finished_from.k D__finished_from.b .nil pass0 (pa_cons (pv 4) (pa_cons (pv 1) (pa_cons (pv 3) pa_nil)))) pa_nil)))) pss_nil)))
      (pss_one (ps_ret (pv 2)))))), ?_⟩
    refine ⟨by show 0 ≤ sizeLine; decide, fun D nD => ?_⟩
    have s1 := same_new (o := .lst []) nD
    have eD : (upd H D (.lst [])) D = some (.lst []) := upd_same
    generalize (upd H D (.lst [])) = H1 at s1 eD ⊢
    refine fun sn nsn => ?_
    have Dsn : D ≠ sn := ne_of_none eD nsn
    have s2 := same_new (o := .dK []) nsn
    have esn : (upd H1 sn (.dK [])) sn = some (.dK []) := upd_same
    have eD := s2 _ _ eD
    have nsn0 : H sn = none := none_of s1 nsn
    have s2 := s1.trans s2
    generalize (upd H1 sn (.dK [])) = H2 at s2 eD esn ⊢
    have fr : ∀ {b : Addr} {o : HO}, H b = some o → fz D sn sn H b = some o := fun h => fz_of (ne_of_none h nD) (ne_of_none h nsn0) (ne_of_none h nsn0) h
    have up : ∀ {Hx : Hp}, Same (fz D sn sn H) (fz D sn sn Hx) → Same H (hid sn Hx) := fun k b o h => by
      obtain ⟨⟨_, h2, _⟩, e⟩ := fz_some (k _ _ (fr h))
      exact hid_of h2 e
    refine ⟨_, rfl, nl, rfl, ⟨_, SqL.of (s2 _ _ hN)⟩, for_list (xs := vn N) (fun i σ Hx => ∃ (done : List Nat) (ks : List (Key × V)) (y4 : Option V), σ = [some (.ref nl), some (.ref a), some (.ref D), some (.ref sn), y4] ∧ Hx D = some (.lst (vn done)) ∧ Hx sn = some (.dK ks) ∧ Same (fz D sn sn H) (fz D sn sn Hx) ∧ Seen ks N done ∧ Fin U done ∧ (∀ y ∈ done, y ∈ N) ∧ ∀ j y, j < i → N[j]? = some y → y ∈ done)
      ⟨[], [], none, rfl, eD, esn, fz_mono s2, ⟨fun y => ⟨fun z => by simp [valV_nil] at z, fun z => by cases z⟩, by have := usum_one [] N; show 0 + _ ≤ _; omega, Nat.le_refl _⟩, .nil U, (fun y hy => by cases hy), fun j y hj => absurd hj (Nat.not_lt_zero _)⟩ (fun i σ Hx _ ⟨_, _, _, _, _, _, k, _⟩ => SqL.of (hid_same sn _ _ _ (up k _ _ hN))) ?_ ?_⟩
    · rintro i v σ Hx hv ⟨done, ks, y4, rfl, hD, hs, k, sd, tp, dn, cov⟩
      obtain ⟨x, hx, rfl⟩ : ∃ x, N[i]? = some x ∧ v = V.int (x : Nat) := by
        unfold vn at hv
        rw [List.getElem?_map] at hv
        obtain ⟨x, e1, e2⟩ := Option.map_eq_some_iff.mp hv
        exact ⟨x, e1, e2.symm⟩
      have xN := List.mem_of_getElem? hx
      refine ⟨_, rfl, _, rfl, sn, _, rfl, DGet.k (k := Sum.inl (x : Int)) hs, _, rfl, ?_⟩
      by_cases c : x ∈ done
      · rw [(sd.i x).mpr c]
        refine iteF ⟨done, ks, _, rfl, hD, hs, k, sd, tp, dn, fun j y hj hy => ?_⟩
        by_cases e : j < i
        · exact cov j y e hy
        · have : j = i := by omega
          subst this
          rw [hx] at hy
          cases hy
          exact c
      · rw [show (valV ks (Sum.inl (x : Int))).isSome = false from Bool.eq_false_iff.mpr fun z => c ((sd.i x).mp z)]
        refine iteT ⟨_, rfl, .inl ⟨rfl, _, SqL.of hD⟩, _, rfl, _, rfl, _, rfl, x, a, sn, U, N, done, ks, rfl, g, hU.same (up k), hs, sd, tp, xN, c, fun H3 l ks' dn' k3 nl3 el3 es3 sd3 tp3 xin dn3 => ?_⟩
        have hD3 : H3 D = some (.lst (vn done)) := (hid_some (k3 _ _ (hid_of Dsn hD))).2
        have big : (done ++ dn').length ≤ 1000 := by
          have := sd3.n
          have := sd3.m
          omega
        have lD : l ≠ D := (ne_of_none hD nl3).symm
        refine ⟨D, l, _, _, rfl, rfl, hD3, el3, by rw [vn_len, vn_len, ← List.length_append]; exact Nat.le_of_lt (small1000 big), ?_⟩
        rw [show vn done ++ vn dn' = vn (done ++ dn') by unfold vn; rw [List.map_append]]
        refine ⟨done ++ dn', ks', _, rfl, upd_same, by rw [upd_ne Dsn.symm]; exact es3, fun b o e => ?_, sd3, tp3, fun y hy => ?_, fun j y hj hy => ?_⟩
        · obtain ⟨⟨h1, h2, h3⟩, e2⟩ := fz_some (k _ _ e)
          refine fz_of h1 h2 h3 ?_
          rw [upd_ne h1]
          exact (hid_some (k3 _ _ (hid_of h2 e2))).2
        · rcases List.mem_append.mp hy with hy | hy
          · exact dn y hy
          · exact dn3 y hy
        · by_cases e : j < i
          · exact List.mem_append_left _ (cov j y e hy)
          · have : j = i := by omega
            subst this
            rw [hx] at hy
            cases hy
            exact List.mem_append_right _ ((xin x).mpr (.here c))
    · rintro σ Hx ⟨done, ks, y4, rfl, hD, hs, k, sd, tp, dn, cov⟩
      refine ⟨_, rfl, q Hx D done ((up k).trans (hid_same _ _)) nD hD tp (fun y => ⟨dn y, fun hy => ?_⟩) ?_⟩
      · obtain ⟨j, hj, e⟩ := List.mem_iff_getElem.mp hy
        exact cov j y (by rw [vn_len]; exact hj) (by rw [List.getElem?_eq_getElem hj, e])
      · have := sd.n
        have := sd.m
        omega

end K48
namespace K48
open PySem PySem.Spec PyProof.Rows L2 V0
/-! ### the names on circles -/
theorem Pth.rch {U : Nat → List Nat} {S : List Nat} {x z : Nat} (h : Pth U S x z) : Rch U x z := by
  induction h with
  | rf x => exact .rf x
  | to _ hy _ ih => exact .to hy ih
theorem Gf.rch {U : Nat → List Nat} {N : List Nat} (g : Gf U N) {x z : Nat} (h : Rch U x z) : x ∈ N → z ∈ N := by
  induction h with
  | rf x => exact id
  | @to x y z hy _ ih => exact fun hx => ih (g.dn x hx y hy)
theorem Kos.split {U : Nat → List Nat} {l : List Nat} (h : Kos U l) : ∀ {A B : List Nat} {x : Nat}, l = A ++ x :: B → ∀ y, Pth U A y x → Rch U x y := by
  induction h with
  | nil =>
    intro A B x e
    simp at e
  | @snoc l w _ hw _ ih =>
    intro A B x e y p
    rcases List.eq_nil_or_concat B with rfl | ⟨B0, z, rfl⟩
    · obtain ⟨e1, e2⟩ := List.append_inj' e rfl
      cases e2
      subst e1
      exact hw y p
    · rw [List.concat_eq_append] at e
      have e : l ++ [w] = (A ++ x :: B0) ++ [z] := by rw [e]; simp
      obtain ⟨e1, _⟩ := List.append_inj' e rfl
      exact ih e1 y p
/-- y leads back to itself -/
def OnC (U : Nat → List Nat) (y : Nat) : Prop := ∃ z, z ∈ U y ∧ Rch U z y
theorem OnC.of {U : Nat → List Nat} {x y : Nat} (h : OnC U x) (a : Rch U y x) (b : Rch U x y) : OnC U y := by
  obtain ⟨z, hz, hzx⟩ := h
  cases a with
  | rf _ => exact ⟨z, hz, hzx⟩
  | to hw hr => exact ⟨_, hw, hr.trans (Rch.to hz (hzx.trans b))⟩
/-- who uses whom -/
structure Bw (U B : Nat → List Nat) (N : List Nat) : Prop where
  i : ∀ o ∈ N, ∀ n, n ∈ B o ↔ n ∈ N ∧ o ∈ U n
structure KI (U B : Nat → List Nat) (L N : List Nat) (i : Nat) (S fo : List Nat) : Prop where
  sN : ∀ y ∈ S, y ∈ N
  fin : Fin B S
  scc : ∀ y ∈ S, ∀ z, Rch U y z → Rch U z y → z ∈ S
  cov : ∀ j y, L.length - i ≤ j → L[j]? = some y → y ∈ S
  on : ∀ y, y ∈ fo ↔ y ∈ S ∧ OnC U y
  nod : fo.Nodup
section
variable {U B : Nat → List Nat} {L N : List Nat} {i : Nat} {S fo : List Nat} {x : Nat}
theorem KI.first (U B : Nat → List Nat) (L N : List Nat) : KI U B L N 0 [] [] := by
  refine ⟨fun y h => (by cases h), .nil B, fun y h => (by cases h), fun j y hj e => ?_, fun y => ⟨fun h => (by cases h), fun h => (by cases h.1)⟩, List.nodup_nil⟩
  have := (List.getElem?_eq_some_iff.mp e).1
  omega
theorem KI.cov' (h : KI U B L N i S fo) (hi : i < L.length) (hx : L[L.length - 1 - i]? = some x) (S' : List Nat) (le : ∀ y ∈ S, y ∈ S') (xS : x ∈ S') : ∀ j y, L.length - (i + 1) ≤ j → L[j]? = some y → y ∈ S' := fun j y hj e => by
  by_cases c : j = L.length - 1 - i
  · subst c
    rw [hx] at e
    cases e
    exact xS
  · exact le _ (h.cov j y (by omega) e)
theorem KI.skip (h : KI U B L N i S fo) (hi : i < L.length) (hx : L[L.length - 1 - i]? = some x) (xS : x ∈ S) : KI U B L N (i + 1) S fo :=
  ⟨h.sN, h.fin, h.scc, h.cov' hi hx S (fun _ h => h) xS, h.on, h.nod⟩
/-- the group of x: the names that x leads to and that lead to x -/
theorem KI.grp (g : Gf U N) (w : Bw U B N) (fL : Fin U L) (mL : ∀ y, y ∈ L ↔ y ∈ N) (h : KI U B L N i S fo) (hi : i < L.length) (hx : L[L.length - 1 - i]? = some x) (xS : x ∉ S) (y : Nat) :
    Apt B S x y ↔ Rch U x y ∧ Rch U y x := by
  have xN : x ∈ N := (mL x).mp (List.mem_of_getElem? hx)
  have eL : L = L.take (L.length - 1 - i) ++ x :: L.drop (L.length - 1 - i + 1) := by
    have hl := (List.getElem?_eq_some_iff.mp hx)
    obtain ⟨hl1, hl2⟩ := hl
    rw [← hl2, List.getElem_cons_drop, List.take_append_drop]
  have rest : ∀ z ∈ L.drop (L.length - 1 - i + 1), z ∈ S := fun z hz => by
    obtain ⟨k, hk, e⟩ := List.mem_iff_getElem.mp hz
    rw [List.getElem_drop] at e
    refine h.cov (L.length - 1 - i + 1 + k) z (by omega) ?_
    rw [List.length_drop] at hk
    rw [List.getElem?_eq_getElem (by omega), e]
  constructor
  · intro a
    have key : y ∈ N ∧ Pth U (L.take (L.length - 1 - i)) y x := by
      induction a with
      | here _ => exact ⟨xN, .rf x⟩
      | @step y z _ hz nz ih =>
        obtain ⟨yN, p⟩ := ih
        obtain ⟨zN, yU⟩ := (w.i y yN z).mp hz
        refine ⟨zN, ?_⟩
        have m := (mL z).mpr zN
        rw [eL] at m
        rcases List.mem_append.mp m with m | m
        · exact .to m yU p
        · rcases List.mem_cons.mp m with rfl | m
          · exact .rf _
          · exact absurd (rest z m) nz
    exact ⟨fL.kos.split eL y key.2, key.2.rch⟩
  · rintro ⟨a, b⟩
    induction b with
    | rf _ => exact .here xS
    | @to y z x' hz hb ih =>
      have yN := g.rch a xN
      have zN := g.dn y yN z hz
      refine .step (ih hx xS xN eL (a.trans (.one hz))) ((w.i z zN y).mpr ⟨yN, hz⟩) fun m => ?_
      exact xS (h.scc y m _ (.to hz hb) a)
theorem KI.more (g : Gf U N) (w : Bw U B N) (fL : Fin U L) (mL : ∀ y, y ∈ L ↔ y ∈ N) (h : KI U B L N i S fo) (hi : i < L.length) (hx : L[L.length - 1 - i]? = some x) (xS : x ∉ S) {G : List Nat} (hG : ∀ y, y ∈ G ↔ Apt B S x y) (fG : Fin B (S ++ G)) (gN : ∀ y ∈ G, y ∈ N) :
    (1 < G.length ∨ x ∈ U x → KI U B L N (i + 1) (S ++ G) (fo ++ G)) ∧ (¬ (1 < G.length ∨ x ∈ U x) → KI U B L N (i + 1) (S ++ G) fo) := by
  have k : ∀ y, y ∈ G ↔ Rch U x y ∧ Rch U y x := fun y => (hG y).trans (h.grp g w fL mL hi hx xS y)
  have xG : x ∈ G := (k x).mpr ⟨.rf x, .rf x⟩
  have nod := List.nodup_append.mp fG.nod
  have sN : ∀ y ∈ S ++ G, y ∈ N := fun y hy => by
    rcases List.mem_append.mp hy with hy | hy
    · exact h.sN y hy
    · exact gN y hy
  have scc : ∀ y ∈ S ++ G, ∀ z, Rch U y z → Rch U z y → z ∈ S ++ G := fun y hy z a b => by
    rcases List.mem_append.mp hy with hy | hy
    · exact List.mem_append_left _ (h.scc y hy z a b)
    · obtain ⟨p, q⟩ := (k y).mp hy
      exact List.mem_append_right _ ((k z).mpr ⟨p.trans a, b.trans q⟩)
  have cov := h.cov' hi hx (S ++ G) (fun y hy => List.mem_append_left _ hy) (List.mem_append_right _ xG)
  constructor
  · intro c
    have ox : OnC U x := by
      rcases c with c | c
      · have : ∃ y, y ∈ G ∧ y ≠ x := by
          apply Classical.byContradiction
          intro no
          have all : ∀ y ∈ G, y = x := fun y hy => Classical.byContradiction fun ne => no ⟨y, hy, ne⟩
          match G, c, nod.2.1, all with
          | a :: b :: r, _, n, all =>
            have := (List.nodup_cons.mp n).1
            exact this (by rw [all a List.mem_cons_self, ← all b (List.mem_cons_of_mem _ List.mem_cons_self)]; exact List.mem_cons_self)
        obtain ⟨y, hy, ne⟩ := this
        obtain ⟨p, q⟩ := (k y).mp hy
        cases p with
        | rf _ => exact absurd rfl ne
        | to hw hr => exact ⟨_, hw, hr.trans q⟩
      · exact ⟨x, c, .rf x⟩
    refine ⟨sN, fG, scc, cov, fun y => ?_, ?_⟩
    · rw [List.mem_append, List.mem_append, h.on y]
      constructor
      · rintro (⟨a, b⟩ | a)
        · exact ⟨.inl a, b⟩
        · obtain ⟨p, q⟩ := (k y).mp a
          exact ⟨.inr a, ox.of q p⟩
      · rintro ⟨a | a, b⟩
        · exact .inl ⟨a, b⟩
        · exact .inr a
    · rw [List.nodup_append]
      exact ⟨h.nod, nod.2.1, fun a ha b hb => nod.2.2 a ((h.on a).mp ha).1 b hb⟩
  · intro c
    refine ⟨sN, fG, scc, cov, fun y => ?_, h.nod⟩
    rw [h.on y, List.mem_append]
    constructor
    · rintro ⟨a, b⟩
      exact ⟨.inl a, b⟩
    · rintro ⟨a | a, b⟩
      · exact ⟨a, b⟩
      · exfalso
        obtain ⟨p, q⟩ := (k y).mp a
        obtain ⟨z, hz, hzx⟩ := b.of p q
        have zG : z ∈ G := (k z).mpr ⟨.one hz, hzx⟩
        refine c (.inr ?_)
        have one : G.length ≤ 1 := by omega
        match G, one, xG, zG with
        | [u], _, xG, zG =>
          rw [List.mem_singleton] at xG zG
          rw [← xG] at zG
          rw [zG] at hz
          exact hz
theorem KI.done (mL : ∀ y, y ∈ L ↔ y ∈ N) (h : KI U B L N L.length S fo) : ∀ y, y ∈ fo ↔ y ∈ N ∧ OnC U y := fun y => by
  rw [h.on y]
  constructor
  · rintro ⟨a, b⟩
    exact ⟨h.sN y a, b⟩
  · rintro ⟨a, b⟩
    obtain ⟨j, hj⟩ := List.getElem?_of_mem ((mL y).mpr a)
    exact ⟨h.cov j y (by omega) hj, b⟩
end

end K48
namespace K48
open PySem PySem.Spec PyProof.Rows L2 V0
theorem dc_it {J : It} {n : Nat} {G : Hp → Prop} {Y : Nat → Hp → V → Hp → Prop} (w : Walk J n G Y) {g : TG} {tt : TT} {tk tv : TE} {vs : List Nat} {σ : L2.St} {H1 : Hp} {D : Addr} {Qd : Hp → Prop} (Pv : Nat → Hp → Prop) (h0 : Pv 0 (upd H1 D (.dK []))) (hG : ∀ i H, i ≤ n → Pv i H → G H)
    (hs : ∀ i x H H', i < n → Pv i H → Y i H x H' → g x (wipe σ vs) H' fun σ2 H2 => wipe σ2 vs = wipe σ vs ∧ tt σ2 H2 fun b H3 =>
      if b = true then tk σ2 H3 fun y H4 => tv σ2 H4 fun z H5 => ∃ kvs k, y = kV k ∧ H5 D = some (.dK kvs) ∧ kvs.length < sizeLine ∧ Pv (i + 1) (upd H5 D (.dK (putK kvs k z))) else Pv (i + 1) H3) (hd : ∀ H, Pv n H → Qd H) :
    ∃ W : Nat → Nat → Hp → Prop, (∃ m, W 0 m (upd H1 D (.dK []))) ∧ ∀ i m H, W i m H →
      (J.stop i H ∧ Qd H) ∨ (J.go i H ∧ ∃ Nx : Hp → Prop, (∀ H', Nx H' → ∃ m', m' < m ∧ W (i + 1) m' H') ∧ ∀ x H', J.yld i H x H' → g x (wipe σ vs) H' fun σ2 H2 => wipe σ2 vs = wipe σ vs ∧ tt σ2 H2 fun b H3 =>
        if b = true then tk σ2 H3 fun y H4 => tv σ2 H4 fun z H5 => ∃ kvs k, y = kV k ∧ H5 D = some (.dK kvs) ∧ kvs.length < sizeLine ∧ Nx (upd H5 D (.dK (putK kvs k z))) else Nx H3) := by
  refine ⟨fun i m H => m = n - i ∧ i ≤ n ∧ Pv i H, ⟨n, by simp, Nat.zero_le _, h0⟩, ?_⟩
  rintro i m H ⟨rfl, hi, p⟩
  have q := hG i H hi p
  by_cases hlt : i < n
  · exact .inr ⟨w.goes i H hlt q, Pv (i + 1), fun H' p' => ⟨n - (i + 1), by omega, rfl, hlt, p'⟩, fun x H' y => hs i x H H' hlt p (w.yields i H x H' hlt q y)⟩
  · have e : i = n := by omega
    subst e
    exact .inl ⟨w.stops H q, hd H p⟩

theorem gnd_get {cs : List Nat} (nd : cs.Nodup) {i k c : Nat} (h1 : cs[i]? = some c) (h2 : cs[k]? = some c) : i = k := by
  have a := List.getElem?_eq_some_iff.mp h1
  have b := List.getElem?_eq_some_iff.mp h2
  exact (List.getElem_inj nd).mp (a.2.trans b.2.symm)
theorem gnd_le {α : Type} [DecidableEq α] : ∀ {xs ys : List α}, xs.Nodup → (∀ x ∈ xs, x ∈ ys) → xs.length ≤ ys.length
  | [], _, _, _ => Nat.zero_le _
  | x :: xs, ys, nd, h => by
    have hx := h x List.mem_cons_self
    have nd := List.nodup_cons.mp nd
    have ih := gnd_le (ys := ys.erase x) nd.2 fun y hy => (List.mem_erase_of_ne (fun e => nd.1 (by rw [← e]; exact hy))).mpr (h y (List.mem_cons_of_mem _ hy))
    rw [List.length_erase_of_mem hx] at ih
    have := List.length_pos_of_mem hx
    rw [List.length_cons]
    omega
/-- over a list from its end, which the body leaves as it is -/
theorem for_rev {K : PySem.W.Frag} {a : Addr} {xs : List V} {g : TG} {tb : TS} {D : Ends} {σ : L2.St} {H : Hp} (Pv : Nat → L2.St → Hp → Prop) (h0 : Pv 0 σ H) (hl : ∀ i σ H, i ≤ xs.length → Pv i σ H → SqL K H a xs)
    (hs : ∀ i x σ H, i < xs.length → xs[xs.length - 1 - i]? = some x → Pv i σ H → g x σ H fun σ2 H2 => tb { D with nx := Pv (i + 1), ct := Pv (i + 1), bk := D.nx } σ2 H2) (hd : ∀ σ H, Pv xs.length σ H → D.nx σ H) :
    ∃ W : Nat → Nat → L2.St → Hp → Prop, (∃ m, W 0 m σ H) ∧ ∀ i m σ H, W i m σ H →
      ((Itv K a xs.length).stop i H ∧ D.nx σ H) ∨ ((Itv K a xs.length).go i H ∧ ∃ N : L2.St → Hp → Prop, (∀ σ' H', N σ' H' → ∃ m', m' < m ∧ W (i + 1) m' σ' H') ∧ ∀ x H', (Itv K a xs.length).yld i H x H' → g x σ H' fun σ2 H2 => tb { D with nx := N, ct := N, bk := D.nx } σ2 H2) := by
  refine ⟨fun i m σ H => m = xs.length - i ∧ i ≤ xs.length ∧ Pv i σ H, ⟨xs.length, by simp, Nat.zero_le _, h0⟩, ?_⟩
  rintro i m σ H ⟨rfl, hi, p⟩
  have q := hl i σ H hi p
  by_cases hlt : i < xs.length
  · refine .inr ⟨⟨hlt, xs, xs[xs.length - 1 - i]'(by omega), q, List.getElem?_eq_getElem _⟩, Pv (i + 1), fun σ' H' p' => ⟨xs.length - (i + 1), by omega, rfl, hlt, p'⟩, fun x H' y => ?_⟩
    obtain ⟨e, y⟩ := y
    subst e
    exact hs i x σ _ hlt (y xs q) p
  · have e : i = xs.length := by omega
    subst e
    exact .inl ⟨Nat.le_refl _, hd σ H p⟩
/-- a dict of lists that were made since H -/
structure UI (H Hx : Hp) (D : Addr) (M : List Nat) (ad : Nat → Addr) (Bf : Nat → List Nat) : Prop where
  d : ∃ kvs : List (Key × V), Hx D = some (.dK kvs) ∧ kvs.length ≤ M.length ∧ ∀ x ∈ M, valV kvs (Sum.inl (x : Int)) = some (.ref (ad x))
  l : ∀ x ∈ M, Hx (ad x) = some (.lst (vn (Bf x)))
  nw : ∀ x ∈ M, H (ad x) = none
  ap : ∀ x ∈ M, ∀ y ∈ M, ad x = ad y → x = y
  k : Same H Hx
section
variable {H Hx H' : Hp} {D : Addr} {M : List Nat} {ad : Nat → Addr} {Bf : Nat → List Nat}
theorem UI.same (h : UI H Hx D M ad Bf) (s : Same Hx H') : UI H H' D M ad Bf := by
  obtain ⟨kvs, e, f⟩ := h.d
  exact ⟨⟨kvs, s _ _ e, f⟩, fun x hx => s _ _ (h.l x hx), h.nw, h.ap, h.k.trans s⟩
theorem UI.at (h : UI H Hx D M ad Bf) : UAt Hx D Bf M := by
  obtain ⟨kvs, e, _, f⟩ := h.d
  exact ⟨kvs, e, fun x hx => ⟨ad x, f x hx, h.l x hx⟩⟩
theorem UI.put (h : UI H Hx D M ad Bf) (nD : H D = none) {l : Addr} {x : Nat} (nl : Hx l = none) (nx : x ∉ M) {kvs : List (Key × V)} (e : Hx D = some (.dK kvs)) (lk : kvs.length ≤ M.length) (f : ∀ x ∈ M, valV kvs (Sum.inl (x : Int)) = some (.ref (ad x))) :
    UI H (upd (upd Hx l (.lst [])) D (.dK (putK kvs (Sum.inl (x : Int)) (.ref l)))) D (M ++ [x]) (fun y => if y = x then l else ad y) (fun y => if y = x then [] else Bf y) := by
  have lD : D ≠ l := ne_of_none e nl
  have old : ∀ y ∈ M, y ≠ x := fun y hy z => nx (z ▸ hy)
  refine ⟨⟨_, upd_same, ?_, fun y hy => ?_⟩, fun y hy => ?_, fun y hy => ?_, fun y hy z hz => ?_, same_mut (h.k.trans (same_new nl)) nD⟩
  · have := length_putK kvs (Sum.inl (x : Int)) (.ref l)
    rw [List.length_append]
    show _ ≤ M.length + 1
    omega
  · rw [valV_put]
    rcases List.mem_append.mp hy with hy | hy
    · rw [if_neg (fun z : (Sum.inl (y : Int) : Key) = Sum.inl (x : Int) => old y hy (by have := Sum.inl.inj z; omega)), if_neg (old y hy)]
      exact f y hy
    · rw [List.mem_singleton.mp hy, if_pos rfl, if_pos rfl]
  · show (upd _ _ _) (if y = x then l else ad y) = some (.lst (vn (if y = x then [] else Bf y)))
    rcases List.mem_append.mp hy with hy | hy
    · rw [if_neg (old y hy), if_neg (old y hy)]
      have a1 := h.l y hy
      have n1 : ad y ≠ D := ne_of a1 e (by intro z; cases z)
      rw [upd_ne n1, upd_ne (ne_of_none a1 nl)]
      exact a1
    · rw [if_pos (List.mem_singleton.mp hy), if_pos (List.mem_singleton.mp hy), upd_ne lD.symm]
      exact upd_same
  · show H (if y = x then l else ad y) = none
    rcases List.mem_append.mp hy with hy | hy
    · rw [if_neg (old y hy)]
      exact h.nw y hy
    · rw [if_pos (List.mem_singleton.mp hy)]
      exact none_of h.k nl
  · show (if y = x then l else ad y) = (if z = x then l else ad z) → y = z
    rcases List.mem_append.mp hy with hy | hy <;> rcases List.mem_append.mp hz with hz | hz
    · rw [if_neg (old y hy), if_neg (old z hz)]
      exact h.ap y hy z hz
    · rw [if_neg (old y hy), if_pos (List.mem_singleton.mp hz)]
      exact fun e => absurd e (ne_of_none (h.l y hy) nl)
    · rw [if_pos (List.mem_singleton.mp hy), if_neg (old z hz)]
      exact fun e => absurd e.symm (ne_of_none (h.l z hz) nl)
    · exact fun _ => (List.mem_singleton.mp hy).trans (List.mem_singleton.mp hz).symm
theorem UI.app (h : UI H Hx D M ad Bf) {o : Nat} (ho : o ∈ M) (x : Nat) : UI H (upd Hx (ad o) (.lst (vn (Bf o ++ [x])))) D M ad (fun y => if y = o then Bf o ++ [x] else Bf y) := by
  obtain ⟨kvs, e, f⟩ := h.d
  have n1 : D ≠ ad o := ne_of e (h.l o ho) (by intro z; cases z)
  refine ⟨⟨kvs, by rw [upd_ne n1]; exact e, f⟩, fun y hy => ?_, h.nw, h.ap, same_mut h.k (h.nw o ho)⟩
  show (upd _ _ _) (ad y) = some (.lst (vn (if y = o then Bf o ++ [x] else Bf y)))
  by_cases c : y = o
  · rw [c, if_pos rfl]
    exact upd_same
  · rw [if_neg c, upd_ne (fun z => c (h.ap y hy o ho z))]
    exact h.l y hy
end
/-- so far: of the first i names all uses, of x the first j -/
structure BI (U : Nat → List Nat) (N : List Nat) (i : Nat) (x j : Nat) (Bf : Nat → List Nat) : Prop where
  m : ∀ o ∈ N, ∀ n, n ∈ Bf o ↔ (n ∈ N.take i ∧ o ∈ U n) ∨ (n = x ∧ o ∈ (U x).take j)
  l : ∀ o ∈ N, (Bf o).length ≤ 60 * i + j
theorem BI.app {U : Nat → List Nat} {N : List Nat} {i x j : Nat} {Bf : Nat → List Nat} (h : BI U N i x j Bf) {o : Nat} (ho : (U x)[j]? = some o) : BI U N i x (j + 1) (fun y => if y = o then Bf o ++ [x] else Bf y) := by
  have oU := List.mem_of_getElem? ho
  refine ⟨fun p hp n => ?_, fun p hp => ?_⟩
  · show n ∈ (if p = o then Bf o ++ [x] else Bf p) ↔ _
    rw [take_snoc ho, List.mem_append]
    by_cases c : p = o
    · rw [if_pos c, List.mem_append, ← c, h.m p hp n, List.mem_singleton, List.mem_singleton]
      constructor
      · rintro ((a | a) | a)
        · exact .inl a
        · exact .inr ⟨a.1, .inl a.2⟩
        · exact .inr ⟨a, .inr rfl⟩
      · rintro (a | ⟨a, b | b⟩)
        · exact .inl (.inl a)
        · exact .inl (.inr ⟨a, b⟩)
        · exact .inr a
    · rw [if_neg c, h.m p hp n, List.mem_singleton]
      constructor
      · rintro (a | a)
        · exact .inl a
        · exact .inr ⟨a.1, .inl a.2⟩
      · rintro (a | ⟨a, b | b⟩)
        · exact .inl a
        · exact .inr ⟨a, b⟩
        · exact absurd b c
  · show (if p = o then Bf o ++ [x] else Bf p).length ≤ _
    by_cases c : p = o
    · rw [if_pos c, List.length_append, ← c]
      have := h.l p hp
      show _ + 1 ≤ _
      omega
    · rw [if_neg c]
      have := h.l p hp
      omega

def sp_on_circles (K : PySem.W.Frag) : Sp := fun vs H Q _ => ∃ (nl a : Addr) (U : Nat → List Nat) (N : List Nat), vs = [.ref nl, .ref a] ∧ Gf U N ∧ N.Nodup ∧ (∀ x ∈ N, (U x).length ≤ 60) ∧ H nl = some (.lst (vn N)) ∧ UAt H a U N ∧
  ∀ H' l (res : List Nat), Same H H' → H l = none → H' l = some (.lst (vn res)) → res.Pairwise (· < ·) → (∀ y, y ∈ res ↔ y ∈ N ∧ OnC U y) → Q (.ref l) H'
theorem ok_on_circles {P : Program} {w : World} {K : PySem.W.Frag} {mg : Str → Option Value} {base : Heap} {C_KindError fI_KindError : Addr} {fd_KindError : FuncData} {C_LoopError fI_LoopError : Addr} {fd_LoopError : FuncData} {B_ : Addr} {mc_ : Value} {tk_MOST_SOURCES : Tok} {f ffinished f_finished_from : Addr} {fd fdfinished fd_finished_from : FuncData} (F : Fun K "on_circles" "on_circles" s_on_circles f fd) (T : Txt K mg C_KindError fI_KindError fd_KindError C_LoopError fI_LoopError fd_LoopError B_ mc_ tk_MOST_SOURCES)
    (G_finished : FnOk P w K mg base CX0 2 ffinished fdfinished ["names", "uses"] (sp_finished K)) (D_finished : Def K mg "finished" ffinished fdfinished ["names", "uses"])
    (G__finished_from : FnOk P w K mg base CX0 1 f_finished_from fd_finished_from ["first", "uses", "seen"] (sp__finished_from K)) (D__finished_from : Def K mg "_finished_from" f_finished_from fd_finished_from ["first", "uses", "seen"]) :
    FnOk P w K mg base CX0 3 f fd ["names", "uses"] (sp_on_circles K) := by
  refine F.ok scon_circles (fun vs H Q E h => ?_) (fun cdv A outer s H vs Q E hr h => ?_)
  · obtain ⟨nl, a, U, N, rfl, _⟩ := h
    rfl
  · obtain ⟨nl, a, U, N, rfl, g, nd, u60, hN, hU, q⟩ := h
    have few := g.few
    refine ⟨_, (pss_cons (V0.ps_setDc (i := 3) (own := [("name", 2)]) (g := gName 2) (tt := tYes) rfl scon_circles.nd rfl rfl (V0.swd_true rfl rfl rfl (by decide +kernel)) (pi_list (pv 0)) (blkOk_by (N := N_on_circles) (sc := defScope s_on_circles) (by decide +kernel)) (fun _ _ _ _ _ => (pg_name (i := 2) scon_circles.nd rfl (Or.inl rfl))) (fun _ _ _ _ _ => pts_nil) (fun _ _ _ _ _ => (pv 2)) (fun _ _ _ _ _ => (pe_lst pa_nil)))
      (pss_cons (ps_for PassesOwn.never rfl (pi_list (pv 0)) (pg_name (i := 2) scon_circles.nd rfl (Or.inl rfl)) (pss_one (ps_for PassesOwn.never rfl (pi_list (pe_dget (hu_of hr) (pv 1) (pv 2) (fun _ _ => rfl))) (pg_name (i := 4) scon_circles.nd rfl (Or.inl rfl)) (pss_one (ps_expr (pe_bm PySem.F.plainAttrs_list PySem.F.slot_list_append PySem.F.type_list_append mt_append (pe_dget (hu_of hr) (pv 3) (pv 4) (fun _ _ => rfl)) (pa_cons (pv 2) pa_nil)))))))
      (pss_cons (ps_set (i := 5) scon_circles.nd rfl (.inl rfl) (pe_lst pa_nil))
      (pss_cons (ps_set (i := 6) scon_circles.nd rfl (.inl rfl) pe_dnewK)
      (pss_cons (ps_for PassesOwn.never rfl (pi_reversed (by rfl) T.m_reversed (pa_cons (pe_call G_finished (hr.mono (by omega)) (by rfl) D_finished.m D_finished.k D_finished.b .nil pass0 (pa_cons (pv 0) (pa_cons (pv 1) pa_nil))) pa_nil)) (pg_name (i := 2) scon_circles.nd rfl (Or.inl rfl)) (pss_one (ps_if (pt_cmp (pc_dnotin (hu_of hr) (pv 2) (pv 6))) (pss_cons (ps_set (i := 7) scon_circles.nd rfl (.inl rfl) (pe_call G__finished_from (hr.mono (by omega)) (by rfl) D__finished_from.m D__finished_from.k D__finished_from.b .nil pass0 (pa_cons (pv 2) (pa_cons (pv 3) (pa_cons (pv 6) pa_nil)))))
      (pss_one (ps_if (PW.pt (pw_or (pt_cmpR op_gt (pe_callB call_len_seq (by rfl) T.m_len (by decide +kernel) (pa_cons (pv 7) pa_nil)) pe_int (nomark _)) (pw_or1 (pt_cmpR (r := rIn K false) op_in_seq (pv 2) (pe_dget (hu_of hr) (pv 1) (pv 2) (fun _ _ => rfl)) (by rfl))))) (pss_one (ps_expr (pe_bm PySem.F.plainAttrs_list PySem.F.slot_list_extend PySem.F.type_list_extend mt_extend (pv 5) (pa_cons (pv 7) pa_nil)))) pss_nil))) pss_nil)))
      (pss_one (ps_ret (pe_callB (r := rSortedI K) cr_sortedI (by rfl) T.m_sorted (by decide +kernel) (pa_cons (pv 5) pa_nil))))))))), ?_⟩
    -- users
    refine ⟨_, rfl, nl, rfl, ⟨_, SqL.of hN⟩, fun D nD => ?_⟩
    refine dc_it (walk_list (xs := vn N)) (fun i Hx => ∃ (ad : Nat → Addr) (Bf : Nat → List Nat), UI H Hx D (N.take i) ad Bf ∧ ∀ x ∈ N.take i, Bf x = []) ⟨fun _ => D, fun _ => [], ⟨⟨[], upd_same, Nat.le_refl _, fun x h => (by simp at h)⟩, fun x h => (by simp at h), fun x h => (by simp at h), fun x h => (by simp at h), same_new nD⟩, fun x h => rfl⟩ (fun i Hx _ ⟨_, _, u, _⟩ => SqL.of (u.k _ _ hN)) ?_ ?_
    · rintro i v Hx Hx' hi ⟨ad, Bf, u, em⟩ ⟨rfl, ev⟩
      rw [vn_len] at hi
      have hx := List.getElem?_eq_getElem hi
      rw [vn_get hx] at ev
      cases ev
      have hts := take_snoc hx
      generalize N[i] = x at hx hts
      obtain ⟨kvs, e, lk, f⟩ := u.d
      have nx : x ∉ N.take i := fun m => by
        obtain ⟨j, hj, ej⟩ := List.mem_iff_getElem.mp m
        rw [List.length_take] at hj
        rw [List.getElem_take] at ej
        have := gnd_get nd (i := j) (k := i) (by rw [List.getElem?_eq_getElem (by omega), ej]) hx
        omega
      refine ⟨rfl, _, rfl, by show 0 ≤ sizeLine; decide, fun l nl' => ⟨kvs, Sum.inl (x : Int), rfl, same_new nl' _ _ e, small1000 (by rw [List.length_take] at lk; omega), _, _, hts ▸ u.put nD nl' nx e lk f, fun y hy => ?_⟩⟩
      rw [hts] at hy
      show (if y = x then [] else Bf y) = []
      by_cases c : y = x
      · rw [if_pos c]
      · rw [if_neg c]
        rcases List.mem_append.mp hy with hy | hy
        · exact em y hy
        · exact absurd (List.mem_singleton.mp hy) c
    rintro H1 ⟨ad, B0, u1, em⟩
    rw [vn_len, List.take_length] at u1 em
    have bi0 : BI U N 0 0 0 B0 := ⟨fun o ho n => by rw [em o ho]; simp, fun o ho => by rw [em o ho]; exact Nat.le_refl _⟩
    have hU0 : ∀ {Hx : Hp} {Bf : Nat → List Nat}, UI H Hx D N ad Bf → UAt Hx a U N := fun u => hU.same u.k
    refine ⟨_, rfl, nl, rfl, ⟨_, SqL.of (u1.k _ _ hN)⟩, for_list (xs := vn N) (fun i σ Hx => ∃ (y2 y4 : Option V) (Bf : Nat → List Nat), σ = [some (.ref nl), some (.ref a), y2, some (.ref D), y4, none, none, none] ∧ UI H Hx D N ad Bf ∧ BI U N i 0 0 Bf) ⟨_, _, B0, rfl, u1, bi0⟩ (fun i σ Hx _ ⟨_, _, _, _, u, _⟩ => SqL.of (u.k _ _ hN)) ?_ ?_⟩
    · rintro i v σ Hx hv ⟨y2, y4, Bf, rfl, u, bi⟩
      obtain ⟨x, hx, rfl⟩ : ∃ x, N[i]? = some x ∧ v = V.int (x : Nat) := by
        unfold vn at hv
        rw [List.getElem?_map] at hv
        obtain ⟨x, e1, e2⟩ := Option.map_eq_some_iff.mp hv
        exact ⟨x, e1, e2.symm⟩
      have xN := List.mem_of_getElem? hx
      have ux := u60 x xN
      have il := (List.getElem?_eq_some_iff.mp hx).1
      obtain ⟨kvs, hkv, hul⟩ := hU
      obtain ⟨l, el, hl⟩ := hul x xN
      refine ⟨_, rfl, _, rfl, a, _, rfl, dget_k (u.k _ _ hkv) el, l, rfl, ⟨_, SqL.of (u.k _ _ hl)⟩, for_list (xs := vn (U x)) (fun j σ Hz => ∃ (y4 : Option V) (Bf : Nat → List Nat), σ = [some (.ref nl), some (.ref a), some (.int (x : Nat)), some (.ref D), y4, none, none, none] ∧ UI H Hz D N ad Bf ∧ BI U N i x j Bf) ⟨_, Bf, rfl, u, ⟨fun o ho n => ?_, bi.l⟩⟩ (fun j σ Hz _ ⟨_, _, _, u, _⟩ => SqL.of (u.k _ _ hl)) ?_ ?_⟩
      · rw [bi.m o ho n, List.take_zero, List.take_zero]
        simp
      · rintro j v σ Hz hv ⟨y4, Bf, rfl, u, bi⟩
        obtain ⟨o, ho, rfl⟩ : ∃ o, (U x)[j]? = some o ∧ v = V.int (o : Nat) := by
          unfold vn at hv
          rw [List.getElem?_map] at hv
          obtain ⟨x, e1, e2⟩ := Option.map_eq_some_iff.mp hv
          exact ⟨x, e1, e2.symm⟩
        have jl := (List.getElem?_eq_some_iff.mp ho).1
        have oN := g.dn x xN o (List.mem_of_getElem? ho)
        obtain ⟨ks, e, lk, f⟩ := u.d
        have lo := u.l o oN
        have b1 := bi.l o oN
        refine ⟨_, rfl, _, rfl, D, _, rfl, dget_k e (f o oN), .inl ⟨rfl, _, SqL.of lo⟩, _, rfl, ad o, _, _, rfl, rfl, lo, small64k (by rw [vn_len]; omega), ?_⟩
        rw [vn_snoc']
        exact ⟨_, _, rfl, u.app oN x, bi.app ho⟩
      · rintro σ Hz ⟨y4, Bf, rfl, u, bi⟩
        refine ⟨_, _, Bf, rfl, u, ⟨fun o ho n => ?_, fun o ho => ?_⟩⟩
        · rw [bi.m o ho n, vn_len, List.take_length, take_snoc hx, List.mem_append, List.mem_singleton, List.take_zero]
          constructor
          · rintro (h | ⟨h1, h2⟩)
            · exact .inl ⟨.inl h.1, h.2⟩
            · exact .inl ⟨.inr h1, h1 ▸ h2⟩
          · rintro (⟨h | h, h2⟩ | ⟨_, h⟩)
            · exact .inl ⟨h, h2⟩
            · exact .inr ⟨h, h ▸ h2⟩
            · cases h
        · have := bi.l o ho
          rw [vn_len] at this
          omega
    rintro σ H2 ⟨y2, y4, B, rfl, u2, bi⟩
    rw [vn_len] at bi
    have bw : Bw U B N := ⟨fun o ho n => by
      rw [bi.m o ho n, List.take_length, List.take_zero]
      constructor
      · rintro (h | ⟨_, h⟩)
        · exact h
        · cases h
      · exact .inl⟩
    have gB : Gf B N := ⟨fun x hx n hn => ((bw.i x hx n).mp hn).1, few⟩
    have hUB := u2.at
    have hU2 := hU.same u2.k
    have hN2 := u2.k _ _ hN
    have s2 := u2.k
    clear bi em bi0 u1 u2
    -- found, seen
    refine ⟨by show 0 ≤ sizeLine; decide, fun F nF => ?_⟩
    have s3 := same_new (o := .lst []) nF
    have eF : (upd H2 F (.lst [])) F = some (.lst []) := upd_same
    generalize (upd H2 F (.lst [])) = H3 at s3 eF ⊢
    refine fun sn nsn => ?_
    have Fsn : F ≠ sn := ne_of_none eF nsn
    have nsn2 : H2 sn = none := none_of s3 nsn
    have s4 := s3.trans (same_new (o := .dK []) nsn)
    have eF := same_new (o := .dK []) nsn _ _ eF
    have esn : (upd H3 sn (.dK [])) sn = some (.dK []) := upd_same
    generalize (upd H3 sn (.dK [])) = H4 at s4 eF esn ⊢
    clear nsn s3
    -- reversed
    refine ⟨_, rfl, _, rfl, nl, a, U, N, rfl, g, s4 _ _ hN2, hU2.same s4, fun H5 ll L s5 nll eL fL mL lL => ⟨ll, _, rfl, SqL.of eL, ?_⟩⟩
    have s45 := s4.trans s5
    have llF : ll ≠ F := (ne_of_none eF nll).symm
    have llsn : ll ≠ sn := (ne_of_none esn nll).symm
    have nll2 : H2 ll = none := none_of s4 nll
    have fr : ∀ {b : Addr} {o : HO}, H2 b = some o → fz F sn sn H5 b = some o := fun h => fz_of (ne_of_none h nF) (ne_of_none h nsn2) (ne_of_none h nsn2) (s45 _ _ h)
    have up : ∀ {Hx : Hp}, Same (fz F sn sn H5) (fz F sn sn Hx) → Same H2 (hid sn Hx) := fun k b o h => by
      obtain ⟨⟨_, h2, _⟩, e⟩ := fz_some (k _ _ (fr h))
      exact hid_of h2 e
    refine for_rev (xs := vn L) (fun i σ Hx => ∃ (y2 y7 : Option V) (S fo : List Nat) (ks : List (Key × V)), σ = [some (.ref nl), some (.ref a), y2, some (.ref D), y4, some (.ref F), some (.ref sn), y7] ∧ Hx F = some (.lst (vn fo)) ∧ Hx sn = some (.dK ks) ∧ Same (fz F sn sn H5) (fz F sn sn Hx) ∧ Seen ks N S ∧ KI U B L N i S fo)
      ⟨_, _, [], [], [], rfl, s5 _ _ eF, s5 _ _ esn, Same.refl _, ⟨fun y => ⟨fun z => by simp [valV_nil] at z, fun z => (by cases z)⟩, by have := usum_one [] N; show 0 + _ ≤ _; omega, Nat.le_refl _⟩, KI.first U B L N⟩ (fun i σ Hx _ ⟨_, _, _, _, _, _, _, _, k, _⟩ => SqL.of (fz_some (k _ _ (fz_of llF llsn llsn eL))).2) ?_ ?_
    · rintro i v σ Hx hi hv ⟨y2, y7, S, fo, ks, rfl, hF, hs, k, sd, ki⟩
      rw [vn_len] at hi hv
      obtain ⟨x, hx, rfl⟩ : ∃ x, L[L.length - 1 - i]? = some x ∧ v = V.int (x : Nat) := by
        unfold vn at hv
        rw [List.getElem?_map] at hv
        obtain ⟨x, e1, e2⟩ := Option.map_eq_some_iff.mp hv
        exact ⟨x, e1, e2.symm⟩
      have xN := (mL x).mp (List.mem_of_getElem? hx)
      refine ⟨_, rfl, _, rfl, sn, _, rfl, DGet.k (k := Sum.inl (x : Int)) hs, _, rfl, ?_⟩
      by_cases c : x ∈ S
      · rw [(sd.i x).mpr c]
        exact iteF ⟨_, _, S, fo, ks, rfl, hF, hs, k, sd, ki.skip hi hx c⟩
      rw [show (valV ks (Sum.inl (x : Int))).isSome = false from Bool.eq_false_iff.mpr fun z => c ((sd.i x).mp z)]
      refine iteT ⟨_, rfl, _, rfl, _, rfl, x, D, sn, B, N, S, ks, rfl, gB, hUB.same (up k), hs, sd, ki.fin, xN, c, fun H6 gl ks' G k6 ngl egl es6 sd6 fin6 mG gN => ?_⟩
      have hF6 : H6 F = some (.lst (vn fo)) := (hid_some (k6 _ _ (hid_of Fsn hF))).2
      have big : (S ++ G).length ≤ 1000 := by
        have := sd6.n
        have := sd6.m
        omega
      have glF : gl ≠ F := (ne_of_none hF ngl).symm
      have k56 : Same (fz F sn sn H5) (fz F sn sn H6) := fun b o e => by
        obtain ⟨⟨h1, h2, h3⟩, e2⟩ := fz_some (k _ _ e)
        exact fz_of h1 h2 h3 (hid_some (k6 _ _ (hid_of h2 e2))).2
      have nxt := ki.more g bw fL mL hi hx c mG fin6 gN
      have fol : fo.length ≤ 1000 := by
        have := gnd_le (ys := S) ki.nod fun y hy => ((ki.on y).mp hy).1
        rw [List.length_append] at big
        omega
      have yes : (1 < G.length ∨ x ∈ U x) → ∃ (y2 y7 : Option V) (S' fo' : List Nat) (ks2 : List (Key × V)), [some (.ref nl), some (.ref a), some (.int (x : Nat)), some (.ref D), y4, some (.ref F), some (.ref sn), some (.ref gl)] = [some (.ref nl), some (.ref a), y2, some (.ref D), y4, some (.ref F), some (.ref sn), y7] ∧ (upd H6 F (.lst (vn (fo ++ G)))) F = some (.lst (vn fo')) ∧ (upd H6 F (.lst (vn (fo ++ G)))) sn = some (.dK ks2) ∧ Same (fz F sn sn H5) (fz F sn sn (upd H6 F (.lst (vn (fo ++ G))))) ∧ Seen ks2 N S' ∧ KI U B L N (i + 1) S' fo' := fun t =>
        ⟨_, _, S ++ G, fo ++ G, ks', rfl, upd_same, by rw [upd_ne Fsn.symm]; exact es6, k56.trans (fz_mut (.inl rfl)), sd6, nxt.1 t⟩
      obtain ⟨kvs, hkv, hul⟩ := hU2
      obtain ⟨l, el, hl⟩ := hul x xN
      have ext : (vn fo).length + (vn G).length ≤ sizeLine := by
        rw [vn_len, vn_len]
        rw [List.length_append] at big
        exact Nat.le_of_lt (small64k (by omega))
      have eFG : vn fo ++ vn G = vn (fo ++ G) := by unfold vn; rw [List.map_append]
      refine ⟨_, rfl, gl, _, rfl, .inl (SqL.of egl), _, _, rfl, rfl, _, rfl, ?_⟩
      rw [show decide ((1 : Int) < (((vn G).length : Nat) : Int)) = decide (1 < G.length) from decide_eq_decide.mpr (by rw [vn_len]; omega)]
      by_cases c1 : 1 < G.length
      · rw [decide_eq_true c1]
        refine iteT (iteT ⟨_, rfl, .inl ⟨rfl, _, SqL.of hF6⟩, _, rfl, F, gl, _, _, rfl, rfl, hF6, egl, ext, ?_⟩)
        rw [eFG]
        exact yes (.inl c1)
      rw [decide_eq_false c1]
      have h62 := up k56
      refine iteF ⟨_, rfl, _, rfl, _, rfl, a, _, rfl, dget_k (hid_some (h62 _ _ hkv)).2 el, l, _, rfl, .inl (SqL.of (hid_some (h62 _ _ hl)).2), rfl, flat_vn _, _, rfl, ?_⟩
      show if inV (.int ((x : Nat) : Int)) (vn (U x)) = true then _ else _
      rw [inV_vn]
      by_cases c2 : x ∈ U x
      · rw [decide_eq_true c2]
        refine iteT ⟨_, rfl, .inl ⟨rfl, _, SqL.of hF6⟩, _, rfl, F, gl, _, _, rfl, rfl, hF6, egl, ext, ?_⟩
        rw [eFG]
        exact yes (.inr c2)
      · rw [decide_eq_false c2]
        exact iteF ⟨_, _, S ++ G, fo, ks', rfl, hF6, es6, k56, sd6, nxt.2 fun z => z.elim c1 c2⟩
    · rintro σ Hx ⟨y2, y7, S, fo, ks, rfl, hF, hs, k, sd, ki⟩
      rw [vn_len] at ki
      refine ⟨_, rfl, F, toI fo, rfl, SqL.of (by rw [← vn_int]; exact hF), fun ns' p pm srt np => ?_⟩
      obtain ⟨zs, rfl, h1, h2⟩ := perm_asc pm srt ki.nod
      have sx : Same H2 Hx := (up k).trans (hid_same _ _)
      refine q _ p zs (s2.trans (sx.trans (same_new np))) ?_ ?_ h1 fun y => (h2 y).trans (ki.done mL y)
      · exact none_of s2 (none_of sx np)
      · rw [vn_int]
        exact upd_same

end K48
namespace K48
open PySem PySem.Spec PyProof.Rows L2 V0
/-! ### cells -/
inductive Sce where
  | no
  | pad (i : Int)
  | cel (i : Int)
  deriving DecidableEq
def Sce.dat : Sce → PyData
  | .no => .tuple [.str "none"]
  | .pad i => .tuple [.str "pad", .int i]
  | .cel i => .tuple [.str "cell", .int i]
/-- the values that stand in a source's tuple -/
def Sce.its : Sce → List V
  | .no => [.str "none"]
  | .pad i => [.str "pad", .int i]
  | .cel i => [.str "cell", .int i]
theorem st_pc : ("pad" : Str) ≠ "cell" := by decide +kernel
theorem st_pn : ("pad" : Str) ≠ "none" := by decide +kernel
theorem st_cn : ("cell" : Str) ≠ "none" := by decide +kernel
instance : PySem.W.Datum Sce where
  toD := Sce.dat
  plain a := by cases a <;> rfl
  eqv a b := by
    cases a <;> cases b <;> simp [Sce.dat, PyData.eqv, PyData.eqvAll, st_pc, st_pc.symm]
    all_goals rw [PySem.W.beq_decide]
  depth := 1
  depth_le a := by cases a <;> simp [Sce.dat, PyData.depth, PyData.depthAll]
instance : Dm Sce where
  lay a := by cases a <;> simp only [PySem.W.Datum.toD, Sce.dat, PyData.canLay0, PyData.canLayAll0, Bool.and_true] <;> decide +kernel
structure Cell where
  src : List Sce
  table : Int
  kept : Int
  start : Int
  deriving DecidableEq
instance : PySem.W.Datum Cell where
  toD n := .tuple [.str "cell", PySem.W.Datum.toD n.src, .int n.table, .int n.kept, .int n.start]
  plain n := by simp only [PyData.plain, PyData.plainAll, PySem.W.Datum.plain, Bool.and_self]
  eqv a b := by
    simp only [PyData.eqv, PyData.eqvAll, PySem.W.Datum.eqv, Bool.and_true]
    rw [PySem.W.beq_decide, PySem.W.beq_decide, PySem.W.beq_decide, PySem.W.beq_decide, ← Bool.decide_and, ← Bool.decide_and, ← Bool.decide_and, ← Bool.decide_and]
    refine decide_eq_decide.mpr ⟨fun ⟨_, h1, h2, h3, h4⟩ => ?_, fun e => by rw [e]; exact ⟨rfl, rfl, rfl, rfl, rfl⟩⟩
    cases a
    cases b
    simp only at h1 h2 h3 h4
    rw [h1, h2, h3, h4]
  depth := 3
  depth_le n := by
    have h1 := PySem.W.Datum.depth_le n.src
    have e1 : PySem.W.Datum.depth (List Sce) = 2 := rfl
    rw [e1] at h1
    simp only [PyData.depth, PyData.depthAll]
    omega
instance : Dm Cell where
  lay n := by
    have h1 := Dm.lay n.src
    simp only [PySem.W.Datum.toD] at h1 ⊢
    simp only [PyData.canLay0, PyData.canLayAll0, Bool.and_true] at h1 ⊢
    rw [h1]
    decide +kernel
structure Cells where
  ins : Nat
  rows : List Cell
  outs : List Sce
  deriving DecidableEq
instance : PySem.W.Datum Cells where
  toD n := .tuple [.str "cells", PySem.W.Datum.toD n.ins, PySem.W.Datum.toD n.rows, PySem.W.Datum.toD n.outs]
  plain n := by simp only [PyData.plain, PyData.plainAll, PySem.W.Datum.plain, Bool.and_self]
  eqv a b := by
    simp only [PyData.eqv, PyData.eqvAll, PySem.W.Datum.eqv, Bool.and_true]
    rw [PySem.W.beq_decide, ← Bool.decide_and, ← Bool.decide_and, ← Bool.decide_and]
    refine decide_eq_decide.mpr ⟨fun ⟨_, h1, h2, h3⟩ => ?_, fun e => by rw [e]; exact ⟨rfl, rfl, rfl, rfl⟩⟩
    cases a
    cases b
    simp only at h1 h2 h3
    rw [h1, h2, h3]
  depth := 5
  depth_le n := by
    have h1 := PySem.W.Datum.depth_le n.ins
    have h2 := PySem.W.Datum.depth_le n.rows
    have h3 := PySem.W.Datum.depth_le n.outs
    have e1 : PySem.W.Datum.depth Nat = 0 := rfl
    have e2 : PySem.W.Datum.depth (List Cell) = 4 := rfl
    have e3 : PySem.W.Datum.depth (List Sce) = 2 := rfl
    rw [e1] at h1
    rw [e2] at h2
    rw [e3] at h3
    simp only [PyData.depth, PyData.depthAll]
    omega
instance : Dm Cells where
  lay n := by
    have h1 := Dm.lay n.ins
    have h2 := Dm.lay n.rows
    have h3 := Dm.lay n.outs
    simp only [PySem.W.Datum.toD] at h1 h2 h3 ⊢
    simp only [PyData.canLay0, PyData.canLayAll0, Bool.and_true] at h1 h2 h3 ⊢
    rw [h2, h3]
    decide +kernel
theorem dh_tup {H : Hp} {v : V} {ds : List PyData} (h : Dh H v (.tuple ds)) : ∃ a xs, v = .ref a ∧ H a = some (.tup xs) ∧ DhAll H xs ds := by
  cases h with
  | tup h1 h2 => exact ⟨_, _, rfl, h1, h2⟩
theorem dha_cons {H : Hp} {vs : List V} {d : PyData} {ds : List PyData} (h : DhAll H vs (d :: ds)) : ∃ v us, vs = v :: us ∧ Dh H v d ∧ DhAll H us ds := by
  cases h with
  | cons h1 h2 => exact ⟨_, _, rfl, h1, h2⟩
theorem dha_nil {H : Hp} {vs : List V} (h : DhAll H vs []) : vs = [] := by
  cases h
  rfl
theorem Dv.sce {H : Hp} {a : Addr} {s : Sce} (h : H a = some (.tup s.its)) : Dv H (.ref a) s := by
  cases s with
  | no => exact Dh.tup h (.cons (.str _) .nil)
  | pad i => exact Dh.tup h (.cons (.str _) (.cons (.int _) .nil))
  | cel i => exact Dh.tup h (.cons (.str _) (.cons (.int _) .nil))
theorem sce_inv {H : Hp} {v : V} {s : Sce} (h : Dv H v s) : ∃ a, v = .ref a ∧ H a = some (.tup s.its) := by
  unfold Dv at h
  cases s with
  | no =>
    obtain ⟨a, us, rfl, ha, hx⟩ := dh_tup h
    obtain ⟨v0, r0, rfl, h0, hx⟩ := dha_cons hx
    cases dha_nil hx
    cases h0
    exact ⟨a, rfl, ha⟩
  | pad i =>
    obtain ⟨a, us, rfl, ha, hx⟩ := dh_tup h
    obtain ⟨v0, r0, rfl, h0, hx⟩ := dha_cons hx
    obtain ⟨v1, r1, rfl, h1, hx⟩ := dha_cons hx
    cases dha_nil hx
    cases h0
    cases h1
    exact ⟨a, rfl, ha⟩
  | cel i =>
    obtain ⟨a, us, rfl, ha, hx⟩ := dh_tup h
    obtain ⟨v0, r0, rfl, h0, hx⟩ := dha_cons hx
    obtain ⟨v1, r1, rfl, h1, hx⟩ := dha_cons hx
    cases dha_nil hx
    cases h0
    cases h1
    exact ⟨a, rfl, ha⟩
theorem Dv.cell {H : Hp} {a b : Addr} {c : Cell} {us : List V} (h : H a = some (.tup [.str "cell", .ref b, .int c.table, .int c.kept, .int c.start])) (hb : H b = some (.lst us)) (hs : Dvs H us c.src) : Dv H (.ref a) c :=
  Dh.tup h (.cons (.str _) (.cons (Dv.list hb hs) (.cons (.int _) (.cons (.int _) (.cons (.int _) .nil)))))
theorem cell_inv {H : Hp} {v : V} {c : Cell} (h : Dv H v c) : ∃ a b us, v = .ref a ∧ H a = some (.tup [.str "cell", .ref b, .int c.table, .int c.kept, .int c.start]) ∧ H b = some (.lst us) ∧ Dvs H us c.src := by
  obtain ⟨a, us, rfl, ha, hx⟩ := dh_tup h
  obtain ⟨v0, r0, rfl, h0, hx⟩ := dha_cons hx
  obtain ⟨v1, r1, rfl, h1, hx⟩ := dha_cons hx
  obtain ⟨v2, r2, rfl, h2, hx⟩ := dha_cons hx
  obtain ⟨v3, r3, rfl, h3, hx⟩ := dha_cons hx
  obtain ⟨v4, r4, rfl, h4, hx⟩ := dha_cons hx
  cases dha_nil hx
  cases h0
  cases h2
  cases h3
  cases h4
  obtain ⟨b, us, rfl, e, d⟩ := Dv.list_inv (xs := c.src) h1
  exact ⟨a, b, us, rfl, ha, e, d⟩
theorem Dv.cells {H : Hp} {a b o : Addr} {c : Cells} {us ws : List V} (h : H a = some (.tup [.str "cells", .int (c.ins : Nat), .ref b, .ref o])) (hb : H b = some (.lst us)) (hs : Dvs H us c.rows) (ho : H o = some (.lst ws)) (hw : Dvs H ws c.outs) : Dv H (.ref a) c :=
  Dh.tup h (.cons (.str _) (.cons (.int _) (.cons (Dv.list hb hs) (.cons (Dv.list ho hw) .nil))))
theorem cells_inv {H : Hp} {v : V} {c : Cells} (h : Dv H v c) : ∃ a b o us ws, v = .ref a ∧ H a = some (.tup [.str "cells", .int (c.ins : Nat), .ref b, .ref o]) ∧ H b = some (.lst us) ∧ Dvs H us c.rows ∧ H o = some (.lst ws) ∧ Dvs H ws c.outs := by
  obtain ⟨a, us, rfl, ha, hx⟩ := dh_tup h
  obtain ⟨v0, r0, rfl, h0, hx⟩ := dha_cons hx
  obtain ⟨v1, r1, rfl, h1, hx⟩ := dha_cons hx
  obtain ⟨v2, r2, rfl, h2, hx⟩ := dha_cons hx
  obtain ⟨v3, r3, rfl, h3, hx⟩ := dha_cons hx
  cases dha_nil hx
  cases h0
  have e2 := Dv.nat_inv (n := c.ins) h1
  subst e2
  obtain ⟨b, us, rfl, e, d⟩ := Dv.list_inv (xs := c.rows) h2
  obtain ⟨o, ws, rfl, e', d'⟩ := Dv.list_inv (xs := c.outs) h3
  exact ⟨a, b, o, us, ws, rfl, ha, e, d, e', d'⟩

end K48
namespace K48
open PySem PySem.Spec PyProof.Rows L2 V0
/-! ### the draws -/
def sp__law_state (K : PySem.W.Frag) : Sp := fun vs H Q _ => ∃ (a : Addr) (ns : List Int), vs = [.ref a] ∧ SqL K H a (vi ns) ∧ ns.length ≤ 63 ∧ ∀ H' p c, Same H H' → Dr H' p c → Q (.ref p) H'
theorem ok__law_state {P : Program} {w : World} {K : PySem.W.Frag} {mg : Str → Option Value} {base : Heap} {C_KindError fI_KindError : Addr} {fd_KindError : FuncData} {C_LoopError fI_LoopError : Addr} {fd_LoopError : FuncData} {B_ : Addr} {mc_ : Value} {tk_MOST_SOURCES : Tok} {f  : Addr} {fd  : FuncData} (F : Fun K "_law_state" "_law_state" s__law_state f fd) (T : Txt K mg C_KindError fI_KindError fd_KindError C_LoopError fI_LoopError fd_LoopError B_ mc_ tk_MOST_SOURCES) :
    FnOk P w K mg base CX0 1 f fd ["script"] (sp__law_state K) := by
  refine F.ok sc_law_state (fun vs H Q E h => ?_) (fun cdv A outer s H vs Q E hr h => ?_)
  · obtain ⟨a, ns, rfl, _⟩ := h
    rfl
  · obtain ⟨a, ns, rfl, hS, hl, q⟩ := h
    refine ⟨_, (pss_cons (ps_set (i := 1) sc_law_state.nd rfl (.inl rfl) pe_int)
      (pss_cons (ps_for PassesOwn.never rfl (pi_list (pv 0)) (pg_name (i := 2) sc_law_state.nd rfl (Or.inl rfl)) (pss_one (ps_set (i := 1) sc_law_state.nd rfl (.inl rfl) (pe_op op_modN (pe_callTy call_int1 (by rfl) T.m_int (by decide +kernel) (pa_cons (pe_op op_add (pe_op op_mul (pv 1) pe_int) (pv 2)) pa_nil)) pe_int))))
      (pss_one (ps_ret (pe_lst (pa_cons (pe_lc (own := [("cell", 2)]) (g := gName 2) (tt := tYes) rfl sc_law_state.nd (pi_list (pv 0)) (blkOk_by (N := N__law_state) (sc := defScope s__law_state) (by decide +kernel)) (fun _ _ _ _ _ => (pg_name (i := 2) sc_law_state.nd rfl (Or.inl rfl))) (fun _ _ _ _ _ => pts_nil) (fun _ _ _ _ _ => (pe_callB call_abs (by rfl) T.m_abs (by decide +kernel) (pa_cons (pe_callTy call_int1 (by rfl) T.m_int (by decide +kernel) (pa_cons (pv 2) pa_nil)) pa_nil)))) (pa_cons (pe_op op_add (pv 1) pe_int) pa_nil))))))), ?_⟩
    refine ⟨_, rfl, a, rfl, ⟨_, hS⟩, for_list (xs := vi ns) (fun _ σ H' => ∃ (z : Int) (y : Option V), σ = [some (.ref a), some (.int z), y] ∧ H' = H) ⟨7, none, rfl, rfl⟩ (fun i σ H' _ h => ?_) ?_ ?_⟩
    · obtain ⟨z, y, _, rfl⟩ := h
      exact hS
    · rintro i v σ H' hv ⟨z, y, rfl, rfl⟩
      obtain ⟨n, hn, rfl⟩ := List.mem_map.mp (List.mem_of_getElem? hv)
      refine ⟨_, rfl, _, _, rfl, rfl, .inr ⟨by decide, by decide⟩, _, rfl, _, _, rfl, rfl, .inl ⟨_, rfl, _, _, rfl, rfl, (show (1000003 : Int) ≠ 0 by decide), ?_⟩⟩
      exact ⟨_, _, rfl, rfl⟩
    · rintro σ H' ⟨z, y, rfl, rfl⟩
      refine ⟨_, rfl, a, rfl, ⟨_, hS⟩, fun D hD => lc_list (xs := vi ns) (fun i H'' => Same H' H'' ∧ H'' D = some (.lst (vn ((ns.take i).map Int.natAbs)))) ⟨same_new hD, upd_same⟩ (fun i H'' _ h => h.1.seq hS) ?_ ?_⟩
      · rintro i v H'' hv ⟨sm, hD'⟩
        have hi : i < ns.length := by
          have h := (List.getElem?_eq_some_iff.mp hv).1
          rw [List.length_map] at h
          exact h
        rw [List.getElem?_map, List.getElem?_eq_getElem hi] at hv
        cases hv
        refine ⟨rfl, _, rfl, .inl ⟨_, rfl, _, rfl, _, hD', ?_, same_mut sm hD, ?_⟩⟩
        · rw [vn_len, List.length_map, List.length_take]
          exact small1000 (by omega)
        · rw [upd_same, List.take_add_one, List.getElem?_eq_getElem hi]
          have e : (if ns[i] < 0 then -ns[i] else ns[i]) = ((ns[i].natAbs : Nat) : Int) := by
            by_cases h : ns[i] < 0
            · rw [if_pos h]
              omega
            · rw [if_neg h]
              omega
          rw [e]
          unfold vn
          rw [List.map_append, List.map_append]
          rfl
      · rintro H'' ⟨sm, hD'⟩
        refine ⟨_, rfl, _, _, rfl, rfl, by show 2 ≤ sizeLine; decide, fun p hp => ?_⟩
        have hDp : D ≠ p := fun e => by
          rw [e, hp] at hD'
          cases hD'
        refine q _ p D (same_mut sm (by rcases hq : H' p with _ | o; rfl; rw [sm _ _ hq] at hp; cases hp)) ⟨fun e => hDp e.symm, (ns.take (vi ns).length).map Int.natAbs, z + 1, upd_same, ?_, ?_⟩
        · rw [upd_ne hDp]
          exact hD'
        · rw [List.length_map, List.length_take]
          omega
def sp__law_draw (K : PySem.W.Frag) : Sp := fun vs H Q _ => ∃ (p c : Addr) (n : Nat), vs = [.ref p, .int n] ∧ Dr H p c ∧ 0 < n ∧ n < 1073741824 ∧ ∀ H' (d : Nat), Go p c H H' → d < n → Q (.int d) H'
theorem ok__law_draw {P : Program} {w : World} {K : PySem.W.Frag} {mg : Str → Option Value} {base : Heap} {C_KindError fI_KindError : Addr} {fd_KindError : FuncData} {C_LoopError fI_LoopError : Addr} {fd_LoopError : FuncData} {B_ : Addr} {mc_ : Value} {tk_MOST_SOURCES : Tok} {f  : Addr} {fd  : FuncData} (F : Fun K "_law_draw" "_law_draw" s__law_draw f fd) (T : Txt K mg C_KindError fI_KindError fd_KindError C_LoopError fI_LoopError fd_LoopError B_ mc_ tk_MOST_SOURCES) :
    FnOk P w K mg base CX0 1 f fd ["state", "many"] (sp__law_draw K) := by
  refine F.ok sc_law_draw (fun vs H Q E h => ?_) (fun cdv A outer s H vs Q E hr h => ?_)
  · obtain ⟨p, c, n, rfl, _⟩ := h
    rfl
  · obtain ⟨p, c, n, rfl, d0, h0, h1, q⟩ := h
    have nz : ((n : Nat) : Int) ≠ 0 := by omega
    have fm : ∀ x : Nat, ((x : Int)).fmod (n : Int) = ((x % n : Nat) : Int) := fun x => by rw [Int.fmod_eq_emod_of_nonneg _ (by omega)]; omega
    obtain ⟨nc, cs0, z0, hp0, hc0, hl0⟩ := d0
    refine ⟨_, (pss_cons (ps_set (i := 2) sc_law_draw.nd rfl (.inl rfl) (pe_ix (r := rIxL K) ix_list (pv 0) pe_int (fun _ _ => rfl)))
      (C8.pss_cut (ps_while PassesOwn.never (PW.pt (pw_and (pt_cmpR op_gt (pe_callB call_len_seq (by rfl) T.m_len (by decide +kernel) (pa_cons (pv 2) pa_nil)) pe_int (nomark _)) (pw_and1 (pt_cmpR op_eq (pe_ix (r := rIxL K) ix_list (pv 2) pe_int (fun _ _ => rfl)) pe_int (nomark _))))) (pss_one (ps_expr (pe_bm PySem.F.plainAttrs_list PySem.F.slot_list_pop PySem.F.type_list_pop mt_popAt (pv 2) (pa_cons pe_int pa_nil)))))
      (pss_cons (ps_if (pt_cmpR op_gt (pe_callB call_len_seq (by rfl) T.m_len (by decide +kernel) (pa_cons (pv 2) pa_nil)) pe_int (nomark _)) (pss_cons (ps_set (i := 3) sc_law_draw.nd rfl (.inl rfl) (pe_ix (r := rIxL K) ix_list (pv 2) pe_int (fun _ _ => rfl)))
      (pss_cons (ps_asg (pe_op op_fdivN (pv 3) (pv 1)) (pg_sub (pv 2) pe_int set_list))
      (pss_one (ps_ret (pe_op op_modN (pe_callTy call_int1 (by rfl) T.m_int (by decide +kernel) (pa_cons (pv 3) pa_nil)) (pv 1)))))) pss_nil)
      (pss_cons (ps_set (i := 4) sc_law_draw.nd rfl (.inl rfl) (pe_op op_modN (pe_callTy call_int1 (by rfl) T.m_int (by decide +kernel) (pa_cons (pe_op op_add (pe_op op_mul (pe_ix (r := rIxL K) ix_list (pv 0) pe_int (fun _ _ => rfl)) pe_int) pe_int) pa_nil)) pe_int))
      (pss_cons (ps_asg (pv 4) (pg_sub (pv 0) pe_int set_list))
      (pss_one (ps_ret (pe_op op_modN (pe_callTy call_int1 (by rfl) T.m_int (by decide +kernel) (pa_cons (pe_op op_fdivN (pv 4) pe_int) pa_nil)) (pv 1))))))))), ?_⟩
    refine ⟨_, rfl, p, _, 0, _, rfl, rfl, SqL.of hp0, atI_nat (j := 0) rfl, ?_⟩
    have go : ∀ (cs : List Nat) (z : Int), cs.length ≤ 63 → Go p c H (upd (upd H c (.lst (vn cs))) p (.lst [.ref c, .int z])) := fun cs z hl =>
      ⟨⟨nc, _, _, hp0, hc0, hl0⟩, ⟨nc, cs, z, upd_same, by rw [upd_ne (fun e => nc e.symm)]; exact upd_same, hl⟩, fun b o hb => by
        obtain ⟨b1, b2, b3⟩ := res_some hb
        rw [res_eq b1 b2, upd_ne b1, upd_ne b2]
        exact b3⟩
    have hpc : ∀ cs : List Nat, (upd H c (.lst (vn cs))) p = some (.lst [.ref c, .int z0]) := fun cs => by
      rw [upd_ne nc]
      exact hp0
    refine ⟨fun σ H' => ∃ cs : List Nat, σ = [some (.ref p), some (.int n), some (.ref c), none, none] ∧ H' = upd H c (.lst (vn cs)) ∧ cs.length ≤ 63, ?_, ?_⟩
    · refine while_by (fun σ H' => ∃ cs : List Nat, σ = [some (.ref p), some (.int n), some (.ref c), none, none] ∧ H' = upd H c (.lst (vn cs)) ∧ cs.length ≤ 63) (fun _ H' => match H' c with | some (.lst xs) => xs.length | _ => 0) ⟨cs0, rfl, (upd_id hc0).symm, hl0⟩ ?_ ?_
      · rintro σ H' ⟨cs, rfl, rfl, hl⟩
        refine ⟨_, rfl, c, _, rfl, .inl (SqL.of upd_same), _, _, rfl, rfl, _, rfl, ?_⟩
        cases cs with
        | nil => exact iteF (iteF ⟨[], rfl, rfl, hl⟩)
        | cons x r =>
          have e : decide ((((vn (x :: r)).length : Nat) : Int) > 0) = true := decide_eq_true (by rw [vn_len, List.length_cons]; omega)
          rw [e]
          refine iteT ?_
          refine ⟨_, rfl, c, _, 0, _, rfl, rfl, SqL.of upd_same, atI_nat (j := 0) rfl, rfl, _, rfl, ?_⟩
          refine ite2 (fun _ => ?_) (fun _ => ⟨x :: r, rfl, rfl, hl⟩)
          refine ⟨_, rfl, .inl ⟨rfl, _, SqL.of upd_same⟩, c, _, 0, 0, _, rfl, rfl, upd_same, by decide, by decide, ?_, rfl, ?_, ?_⟩
          · rw [vn_len, List.length_cons]
            unfold seqIndex?
            simp
          · exact ⟨r, rfl, by rw [upd_upd]; rfl, by rw [List.length_cons] at hl; omega⟩
          · show (match (upd _ c _) c with | some (.lst xs) => xs.length | _ => 0) < (match (upd H c (.lst (vn (x :: r)))) c with | some (.lst xs) => xs.length | _ => 0)
            rw [upd_same, upd_same]
            show ((vn (x :: r)).eraseIdx 0).length < (vn (x :: r)).length
            simp
      · intro σ H' Q Q' hq h
        obtain ⟨x, e1, p', ys, e2, e3, i, j, e4, e5, k, e6, h⟩ := h
        refine ⟨x, e1, p', ys, e2, e3, i, j, e4, e5, k, e6, ?_⟩
        cases k with
        | false => exact iteF (hq _ _ (by rw [if_neg Bool.false_ne_true] at h; exact h))
        | true =>
          rw [if_pos rfl] at h
          obtain ⟨y, f1, l, xs, i2, v, f2, f3, f4, f5, f6, k2, f7, h⟩ := h
          exact iteT ⟨y, f1, l, xs, i2, v, f2, f3, f4, f5, f6, k2, f7, hq _ _ h⟩
    · rintro σ H' ⟨cs, rfl, rfl, hl⟩
      refine ⟨_, rfl, c, _, rfl, .inl (SqL.of upd_same), _, _, rfl, rfl, _, rfl, ?_⟩
      cases cs with
      | nil =>
        refine iteF ?_
        refine ⟨_, rfl, p, _, 1, _, rfl, rfl, SqL.of (hpc []), atI_nat (j := 1) rfl, _, _, rfl, rfl, .inr ⟨by decide, by decide⟩, _, _, rfl, rfl, .inl ⟨_, rfl, _, _, rfl, rfl, (show (2147483647 : Int) ≠ 0 by decide), ?_⟩⟩
        refine ⟨_, rfl, _, rfl, p, _, 1, 1, rfl, rfl, hpc [], rfl, ?_⟩
        have r := emod_range (x := z0 * 48271 + 12345) (show (0 : Int) < 2147483647 by decide)
        refine ⟨_, rfl, _, _, rfl, rfl, ⟨by decide, by decide⟩, .inl ⟨_, rfl, _, rfl, _, _, rfl, rfl, nz, ?_⟩⟩
        obtain ⟨y, hy⟩ : ∃ y : Nat, ((z0 * 48271 + 12345).fmod 2147483647).fdiv 64 = (y : Int) := ⟨_, (Int.toNat_of_nonneg (by
          rw [Int.fdiv_eq_ediv_of_nonneg _ (by decide)]
          omega)).symm⟩
        show Q (V.int ((((z0 * 48271 + 12345).fmod 2147483647).fdiv 64).fmod n)) _
        rw [hy, fm]
        exact q _ _ (go [] _ hl) (Nat.mod_lt _ h0)
      | cons x r =>
        have e : decide ((((vn (x :: r)).length : Nat) : Int) > 0) = true := decide_eq_true (by rw [vn_len, List.length_cons]; omega)
        rw [e]
        refine iteT ?_
        refine ⟨_, rfl, c, _, 0, _, rfl, rfl, SqL.of upd_same, atI_nat (j := 0) rfl, ?_⟩
        refine ⟨_, rfl, _, rfl, _, _, rfl, rfl, ⟨nz, by show ((n : Nat) : Int).natAbs < 1073741824; omega⟩, ?_⟩
        refine ⟨_, rfl, c, _, 0, 0, rfl, rfl, upd_same, ix_nat (j := 0) (by rw [vn_len, List.length_cons]; omega), ?_⟩
        refine ⟨_, rfl, .inl ⟨_, rfl, _, rfl, _, _, rfl, rfl, nz, ?_⟩⟩
        show Q (V.int ((x : Int).fmod n)) _
        rw [fm, upd_upd]
        have ed : (x : Int).fdiv n = ((x / n : Nat) : Int) := by
          rw [Int.fdiv_eq_ediv_of_nonneg _ (by omega)]
          rfl
        show Q _ (upd H c (.lst ((V.int ((x : Int).fdiv n)) :: vn r)))
        rw [ed]
        have g := go (x / n :: r) z0 hl
        rw [upd_id (show (upd H c (.lst (vn (x / n :: r)))) p = _ from hpc _)] at g
        exact q _ _ g (Nat.mod_lt _ h0)
def sp__law_pick (K : PySem.W.Frag) : Sp := fun vs H Q _ => ∃ (p c r : Addr) (us : List V), vs = [.ref p, .ref r] ∧ Dr H p c ∧ r ≠ p ∧ r ≠ c ∧ H r = some (.lst us) ∧ 0 < us.length ∧ us.length ≤ 1000 ∧ ∀ H' v, Go p c H H' → v ∈ us → Q v H'
theorem ok__law_pick {P : Program} {w : World} {K : PySem.W.Frag} {mg : Str → Option Value} {base : Heap} {C_KindError fI_KindError : Addr} {fd_KindError : FuncData} {C_LoopError fI_LoopError : Addr} {fd_LoopError : FuncData} {B_ : Addr} {mc_ : Value} {tk_MOST_SOURCES : Tok} {f f_law_draw : Addr} {fd fd_law_draw : FuncData} (F : Fun K "_law_pick" "_law_pick" s__law_pick f fd) (T : Txt K mg C_KindError fI_KindError fd_KindError C_LoopError fI_LoopError fd_LoopError B_ mc_ tk_MOST_SOURCES)
    (G__law_draw : FnOk P w K mg base CX0 1 f_law_draw fd_law_draw ["state", "many"] (sp__law_draw K)) (D__law_draw : Def K mg "_law_draw" f_law_draw fd_law_draw ["state", "many"]) :
    FnOk P w K mg base CX0 2 f fd ["state", "row"] (sp__law_pick K) := by
  refine F.ok sc_law_pick (fun vs H Q E h => ?_) (fun cdv A outer s H vs Q E hr h => ?_)
  · obtain ⟨p, c, r, us, rfl, _⟩ := h
    rfl
  · obtain ⟨p, c, r, us, rfl, d0, n1, n2, hS, hl0, hl1, q⟩ := h
    refine ⟨_, (pss_one (ps_ret (pe_ix (r := rIxL K) ix_list (pv 1) (pe_call G__law_draw (hr.mono (by omega)) (by rfl) D__law_draw.m D__law_draw.k D__law_draw.b .nil pass0 (pa_cons (pv 0) (pa_cons (pe_callB call_len_seq (by rfl) T.m_len (by decide +kernel) (pa_cons (pv 1) pa_nil)) pa_nil))) (fun _ _ => rfl)))), ?_⟩
    refine ⟨_, rfl, _, rfl, _, rfl, r, _, rfl, .inl (SqL.of hS), p, c, us.length, rfl, d0, hl0, by omega, fun H' d g hd => ?_⟩
    exact ⟨r, _, _, _, rfl, rfl, SqL.of (g.get n1 n2 hS), atI_nat (List.getElem?_eq_getElem hd), q _ _ g (List.getElem_mem hd)⟩

end K48
namespace K48
open PySem PySem.Spec PyProof.Rows L2 V0
theorem ok_XKindError {P : Program} {w : World} {K : PySem.W.Frag} {mg : Str → Option Value} {base : Heap} {C_KindError fI_KindError : Addr} {fd_KindError : FuncData} {C_LoopError fI_LoopError : Addr} {fd_LoopError : FuncData} {B_ : Addr} {mc_ : Value} {tk_MOST_SOURCES : Tok} {f : Addr} {fd : FuncData} (F : Fun K "__init__" "KindError.__init__" s_XKindError f fd) (T : Txt K mg C_KindError fI_KindError fd_KindError C_LoopError fI_LoopError fd_LoopError B_ mc_ tk_MOST_SOURCES) : FnOk P w K mg base CX0 1 f fd ["self", "place"] (spExc K "place") := by
  refine F.ok sc_XKindError (fun vs H Q E h => ?_) (fun cdv A outer s H vs Q E hr h => ?_)
  · obtain ⟨a, C, z, rfl, _⟩ := h
    rfl
  · obtain ⟨a, C, z, rfl, hC, hno, ha, hz, q⟩ := h
    refine ⟨_, pss_cons (ps_expr (pe_binit (by rfl) T.xb.m T.xb.ga T.xb.rd T.xb.vi (pa_cons (pv 0) (pa_cons (pe_joined (PJ.cons pe_str (PJ.cons (pe_fmt (pv 1)) PJ.nil))) pa_nil)))) (pss_one (ps_ost (pv 0) (pv 1))), ?_⟩
    refine ⟨_, rfl, _, rfl, by decide, _, rfl, .inl ⟨z, rfl, small2000 (by omega), z, rfl, ?_, a, C, _, rfl, by show 1 ≤ 1000; decide, hC, ha, ?_⟩⟩
    · rw [app_len]
      refine small2000 ?_
      have : (Str.empty ++ ("not as it has to be: " : Str)).length = 21 := by decide +kernel
      omega
    · exact ⟨_, rfl, _, rfl, a, C, rfl, hC, hno, .inl ⟨ha, fun dx n ne => q dx n ne⟩⟩
theorem ok_XLoopError {P : Program} {w : World} {K : PySem.W.Frag} {mg : Str → Option Value} {base : Heap} {C_KindError fI_KindError : Addr} {fd_KindError : FuncData} {C_LoopError fI_LoopError : Addr} {fd_LoopError : FuncData} {B_ : Addr} {mc_ : Value} {tk_MOST_SOURCES : Tok} {f : Addr} {fd : FuncData} (F : Fun K "__init__" "LoopError.__init__" s_XLoopError f fd) (T : Txt K mg C_KindError fI_KindError fd_KindError C_LoopError fI_LoopError fd_LoopError B_ mc_ tk_MOST_SOURCES) : FnOk P w K mg base CX0 1 f fd ["self", "places"] (spExcL K "places") := by
  refine F.ok sc_XLoopError (fun vs H Q E h => ?_) (fun cdv A outer s H vs Q E hr h => ?_)
  · obtain ⟨a, C, l, xs, rfl, _⟩ := h
    rfl
  · obtain ⟨a, C, l, xs, rfl, hC, hno, ha, hl, hb, few, q⟩ := h
    refine ⟨_, pss_cons (ps_expr (pe_binit (by rfl) T.xb.m T.xb.ga T.xb.rd T.xb.vi (pa_cons (pv 0) (pa_cons (pe_joined (PJ.cons pe_str (PJ.cons (pe_fmtL hr (pv 1)) PJ.nil))) pa_nil)))) (pss_one (ps_ost (pv 0) (pv 1))), ?_⟩
    refine ⟨_, rfl, _, rfl, by decide, _, rfl, l, xs, rfl, SqL.of hl, hb, few, fun m hm => ⟨m, rfl, ?_, a, C, _, rfl, by show 1 ≤ 1000; decide, hC, ha, ?_⟩⟩
    · rw [app_len]
      have : (Str.empty ++ ("on circles: " : Str)).length = 12 := by decide +kernel
      exact Nat.le_trans (show _ ≤ 22 * 10000 + 100 by omega) (by decide)
    · exact ⟨_, rfl, _, rfl, a, C, rfl, hC, hno, .inl ⟨ha, fun dx n ne => q dx n ne⟩⟩
end K48
namespace K48
open PySem PySem.Spec PyProof.Rows L2 V0
/-! ### what is there -/
theorem dstr {x y : Str} : decide (V.str x = V.str y) = decide (x = y) := decide_eq_decide.mpr ⟨fun h => by cases h; rfl, fun h => by rw [h]⟩
def Cells.there (c : Cells) : Sce → Bool
  | .no => true
  | .pad i => decide (0 ≤ i ∧ i < (c.ins : Int))
  | .cel i => decide (0 ≤ i ∧ i < (c.rows.length : Int))
theorem there_no {x : Int} {m : Nat} (h : ¬ 0 ≤ x) : decide (0 ≤ x ∧ x < (m : Int)) = false := decide_eq_false fun z => h z.1
theorem there_yes {x : Int} {m : Nat} (h : 0 ≤ x) : decide (0 ≤ x ∧ x < (m : Int)) = decide (x < (m : Int)) := decide_eq_decide.mpr ⟨fun z => z.2, fun z => ⟨h, z⟩⟩
def spThere (K : PySem.W.Frag) : Sp := fun vs H Q _ => ∃ (v w : V) (c : Cells) (s : Sce), vs = [v, w] ∧ Dv H v c ∧ Dv H w s ∧ Q (.bl (c.there s)) H
def sp__law_there (K : PySem.W.Frag) : Sp := spThere K
def sp__is_there (K : PySem.W.Frag) : Sp := spThere K
theorem ok__law_there {P : Program} {w : World} {K : PySem.W.Frag} {mg : Str → Option Value} {base : Heap} {C_KindError fI_KindError : Addr} {fd_KindError : FuncData} {C_LoopError fI_LoopError : Addr} {fd_LoopError : FuncData} {B_ : Addr} {mc_ : Value} {tk_MOST_SOURCES : Tok} {f  : Addr} {fd  : FuncData} (F : Fun K "_law_there" "_law_there" s__law_there f fd) (T : Txt K mg C_KindError fI_KindError fd_KindError C_LoopError fI_LoopError fd_LoopError B_ mc_ tk_MOST_SOURCES) :
    FnOk P w K mg base CX0 1 f fd ["cells", "source"] (sp__law_there K) := by
  refine F.ok sc_law_there (fun vs H Q E h => ?_) (fun cdv A outer s H vs Q E hr h => ?_)
  · obtain ⟨v, w, c, s, rfl, _⟩ := h
    rfl
  · obtain ⟨v, w, c, s, rfl, hv, hw, q⟩ := h
    obtain ⟨a, b, o, us, ws, rfl, ha, hb, hus, ho, hws⟩ := cells_inv hv
    obtain ⟨t, rfl, ht⟩ := sce_inv hw
    refine ⟨_, (pss_cons (ps_if (pt_cmpR op_eq (pe_ix (r := rIxT K) ix_tup (pv 1) pe_int (fun _ _ => rfl)) pe_str (nomark _)) (pss_one (ps_ret pe_bl)) pss_nil)
      (pss_one (ps_ret (pe_chain op_le op_lt pe_int (pe_ix (r := rIxT K) ix_tup (pv 1) pe_int (fun _ _ => rfl)) (pe_ifExp (pt_cmpR op_eq (pe_ix (r := rIxT K) ix_tup (pv 1) pe_int (fun _ _ => rfl)) pe_str (nomark _)) (pe_ix (r := rIxT K) ix_tup (pv 0) pe_int (fun _ _ => rfl)) (pe_callB call_len_seq (by rfl) T.m_len (by decide +kernel) (pa_cons (pe_ix (r := rIxT K) ix_tup (pv 0) pe_int (fun _ _ => rfl)) pa_nil))))))), ?_⟩
    cases s with
    | no =>
      refine ⟨_, rfl, t, _, 0, _, rfl, rfl, SqT.of ht, atI_nat (j := 0) rfl, rfl, _, rfl, ?_⟩
      rw [dstr, decide_eq_true rfl]
      exact iteT q
    | pad i =>
      have q : Q (.bl (decide (0 ≤ i ∧ i < (c.ins : Int)))) H := q
      refine ⟨_, rfl, t, _, 0, _, rfl, rfl, SqT.of ht, atI_nat (j := 0) rfl, rfl, _, rfl, ?_⟩
      rw [dstr, decide_eq_false st_pn]
      refine iteF ⟨_, rfl, t, _, 1, _, rfl, rfl, SqT.of ht, atI_nat (j := 1) rfl, _, _, rfl, rfl, _, rfl, ?_⟩
      by_cases c0 : (0 : Int) ≤ i
      · rw [there_yes c0] at q
        rw [decide_eq_true c0]
        refine iteT ⟨_, rfl, t, _, 0, _, rfl, rfl, SqT.of ht, atI_nat (j := 0) rfl, rfl, _, rfl, ?_⟩
        rw [dstr, decide_eq_true rfl]
        exact iteT ⟨_, rfl, a, _, 1, _, rfl, rfl, SqT.of ha, atI_nat (j := 1) rfl, _, _, rfl, rfl, q⟩
      · rw [there_no c0] at q
        rw [decide_eq_false c0]
        exact iteF q
    | cel i =>
      have q : Q (.bl (decide (0 ≤ i ∧ i < (c.rows.length : Int)))) H := q
      refine ⟨_, rfl, t, _, 0, _, rfl, rfl, SqT.of ht, atI_nat (j := 0) rfl, rfl, _, rfl, ?_⟩
      rw [dstr, decide_eq_false st_cn]
      refine iteF ⟨_, rfl, t, _, 1, _, rfl, rfl, SqT.of ht, atI_nat (j := 1) rfl, _, _, rfl, rfl, _, rfl, ?_⟩
      by_cases c0 : (0 : Int) ≤ i
      · rw [there_yes c0] at q
        rw [decide_eq_true c0]
        refine iteT ⟨_, rfl, t, _, 0, _, rfl, rfl, SqT.of ht, atI_nat (j := 0) rfl, rfl, _, rfl, ?_⟩
        rw [dstr, decide_eq_false st_pc.symm]
        refine iteF ⟨_, rfl, a, _, 2, _, rfl, rfl, SqT.of ha, atI_nat (j := 2) rfl, b, _, rfl, .inl (SqL.of hb), _, _, rfl, rfl, ?_⟩
        rw [hus.len]
        exact q
      · rw [there_no c0] at q
        rw [decide_eq_false c0]
        exact iteF q
theorem ok__is_there {P : Program} {w : World} {K : PySem.W.Frag} {mg : Str → Option Value} {base : Heap} {C_KindError fI_KindError : Addr} {fd_KindError : FuncData} {C_LoopError fI_LoopError : Addr} {fd_LoopError : FuncData} {B_ : Addr} {mc_ : Value} {tk_MOST_SOURCES : Tok} {f  : Addr} {fd  : FuncData} (F : Fun K "_is_there" "_is_there" s__is_there f fd) (T : Txt K mg C_KindError fI_KindError fd_KindError C_LoopError fI_LoopError fd_LoopError B_ mc_ tk_MOST_SOURCES) :
    FnOk P w K mg base CX0 1 f fd ["cells", "source"] (sp__is_there K) := by
  refine F.ok sc_is_there (fun vs H Q E h => ?_) (fun cdv A outer s H vs Q E hr h => ?_)
  · obtain ⟨v, w, c, s, rfl, _⟩ := h
    rfl
  · obtain ⟨v, w, c, s, rfl, hv, hw, q⟩ := h
    obtain ⟨a, b, o, us, ws, rfl, ha, hb, hus, ho, hws⟩ := cells_inv hv
    obtain ⟨t, rfl, ht⟩ := sce_inv hw
    refine ⟨_, (pss_cons (ps_if (pt_cmpR op_eq (pe_ix (r := rIxT K) ix_tup (pv 1) pe_int (fun _ _ => rfl)) pe_str (nomark _)) (pss_one (ps_ret pe_bl)) pss_nil)
      (pss_cons (ps_set (i := 2) sc_is_there.nd rfl (.inl rfl) (pe_ifExp (pt_cmpR op_eq (pe_ix (r := rIxT K) ix_tup (pv 1) pe_int (fun _ _ => rfl)) pe_str (nomark _)) (pe_ix (r := rIxT K) ix_tup (pv 0) pe_int (fun _ _ => rfl)) (pe_callB call_len_seq (by rfl) T.m_len (by decide +kernel) (pa_cons (pe_ix (r := rIxT K) ix_tup (pv 0) pe_int (fun _ _ => rfl)) pa_nil))))
      (pss_one (ps_ret (pe_chain op_le op_lt pe_int (pe_ix (r := rIxT K) ix_tup (pv 1) pe_int (fun _ _ => rfl)) (pv 2)))))), ?_⟩
    cases s with
    | no =>
      refine ⟨_, rfl, t, _, 0, _, rfl, rfl, SqT.of ht, atI_nat (j := 0) rfl, rfl, _, rfl, ?_⟩
      rw [dstr, decide_eq_true rfl]
      exact iteT q
    | pad i =>
      have q : Q (.bl (decide (0 ≤ i ∧ i < (c.ins : Int)))) H := q
      refine ⟨_, rfl, t, _, 0, _, rfl, rfl, SqT.of ht, atI_nat (j := 0) rfl, rfl, _, rfl, ?_⟩
      rw [dstr, decide_eq_false st_pn]
      refine iteF ⟨_, rfl, t, _, 0, _, rfl, rfl, SqT.of ht, atI_nat (j := 0) rfl, rfl, _, rfl, ?_⟩
      rw [dstr, decide_eq_true rfl]
      refine iteT ⟨_, rfl, a, _, 1, _, rfl, rfl, SqT.of ha, atI_nat (j := 1) rfl, _, rfl, t, _, 1, _, rfl, rfl, SqT.of ht, atI_nat (j := 1) rfl, _, _, rfl, rfl, _, rfl, ?_⟩
      by_cases c0 : (0 : Int) ≤ i
      · rw [there_yes c0] at q
        rw [decide_eq_true c0]
        exact iteT ⟨_, rfl, _, _, rfl, rfl, q⟩
      · rw [there_no c0] at q
        rw [decide_eq_false c0]
        exact iteF q
    | cel i =>
      have q : Q (.bl (decide (0 ≤ i ∧ i < (c.rows.length : Int)))) H := q
      refine ⟨_, rfl, t, _, 0, _, rfl, rfl, SqT.of ht, atI_nat (j := 0) rfl, rfl, _, rfl, ?_⟩
      rw [dstr, decide_eq_false st_cn]
      refine iteF ⟨_, rfl, t, _, 0, _, rfl, rfl, SqT.of ht, atI_nat (j := 0) rfl, rfl, _, rfl, ?_⟩
      rw [dstr, decide_eq_false st_pc.symm]
      refine iteF ⟨_, rfl, a, _, 2, _, rfl, rfl, SqT.of ha, atI_nat (j := 2) rfl, b, _, rfl, .inl (SqL.of hb), _, rfl, t, _, 1, _, rfl, rfl, SqT.of ht, atI_nat (j := 1) rfl, _, _, rfl, rfl, _, rfl, ?_⟩
      by_cases c0 : (0 : Int) ≤ i
      · rw [there_yes c0] at q
        rw [decide_eq_true c0]
        refine iteT ⟨_, rfl, _, _, rfl, rfl, ?_⟩
        rw [hus.len]
        exact q
      · rw [there_no c0] at q
        rw [decide_eq_false c0]
        exact iteF q

end K48
namespace K48
open PySem PySem.Spec PyProof.Rows L2 V0
/-! ### the bits that cells tell -/
def Sce.bit (outs bits : List Nat) : Sce → Nat
  | .no => 0
  | .pad i => bits[i.toNat]?.getD 0
  | .cel i => outs[i.toNat]?.getD 0
/-- the source stands among outs and bits -/
def Sce.fit (outs bits : List Nat) : Sce → Prop
  | .no => True
  | .pad i => 0 ≤ i ∧ i < (bits.length : Int)
  | .cel i => 0 ≤ i ∧ i < (outs.length : Int)
theorem at_int {xs : List Nat} {i : Int} (h : 0 ≤ i ∧ i < (xs.length : Int)) : atI (vn xs) i = some (.int (xs[i.toNat]?.getD 0 : Nat)) := by
  obtain ⟨k, rfl⟩ : ∃ k : Nat, i = (k : Int) := ⟨i.toNat, by omega⟩
  have e := List.getElem?_eq_getElem (l := xs) (show k < xs.length by omega)
  rw [Int.toNat_natCast, e]
  exact atI_nat (vn_get e)
def sp__bit_of (K : PySem.W.Frag) : Sp := fun vs H Q _ => ∃ (v : V) (o b : Addr) (s : Sce) (outs bits : List Nat), vs = [v, .ref o, .ref b] ∧ Dv H v s ∧ H o = some (.lst (vn outs)) ∧ H b = some (.lst (vn bits)) ∧ s.fit outs bits ∧ Q (.int (s.bit outs bits : Nat)) H
theorem ok__bit_of {P : Program} {w : World} {K : PySem.W.Frag} {mg : Str → Option Value} {base : Heap} {C_KindError fI_KindError : Addr} {fd_KindError : FuncData} {C_LoopError fI_LoopError : Addr} {fd_LoopError : FuncData} {B_ : Addr} {mc_ : Value} {tk_MOST_SOURCES : Tok} {f  : Addr} {fd  : FuncData} (F : Fun K "_bit_of" "_bit_of" s__bit_of f fd) (T : Txt K mg C_KindError fI_KindError fd_KindError C_LoopError fI_LoopError fd_LoopError B_ mc_ tk_MOST_SOURCES) :
    FnOk P w K mg base CX0 1 f fd ["source", "outputs", "bits"] (sp__bit_of K) := by
  refine F.ok sc_bit_of (fun vs H Q E h => ?_) (fun cdv A outer s H vs Q E hr h => ?_)
  · obtain ⟨v, o, b, s, outs, bits, rfl, _⟩ := h
    rfl
  · obtain ⟨v, o, b, s, outs, bits, rfl, hv, ho, hb, fit, q⟩ := h
    obtain ⟨t, rfl, ht⟩ := sce_inv hv
    refine ⟨_, (pss_cons (ps_if (pt_cmpR op_eq (pe_ix (r := rIxT K) ix_tup (pv 0) pe_int (fun _ _ => rfl)) pe_str (nomark _)) (pss_one (ps_ret pe_int)) pss_nil)
      (pss_one (ps_ret (pe_ifExp (pt_cmpR op_eq (pe_ix (r := rIxT K) ix_tup (pv 0) pe_int (fun _ _ => rfl)) pe_str (nomark _)) (pe_ix (r := rIxL K) ix_list (pv 2) (pe_ix (r := rIxT K) ix_tup (pv 0) pe_int (fun _ _ => rfl)) (fun _ _ => rfl)) (pe_ix (r := rIxL K) ix_list (pv 1) (pe_ix (r := rIxT K) ix_tup (pv 0) pe_int (fun _ _ => rfl)) (fun _ _ => rfl)))))), ?_⟩
    cases s with
    | no =>
      refine ⟨_, rfl, t, _, 0, _, rfl, rfl, SqT.of ht, atI_nat (j := 0) rfl, rfl, _, rfl, ?_⟩
      rw [dstr, decide_eq_true rfl]
      exact iteT q
    | pad i =>
      refine ⟨_, rfl, t, _, 0, _, rfl, rfl, SqT.of ht, atI_nat (j := 0) rfl, rfl, _, rfl, ?_⟩
      rw [dstr, decide_eq_false st_pn]
      refine iteF ⟨_, rfl, t, _, 0, _, rfl, rfl, SqT.of ht, atI_nat (j := 0) rfl, rfl, _, rfl, ?_⟩
      rw [dstr, decide_eq_true rfl]
      exact iteT ⟨_, rfl, _, rfl, t, _, 1, _, rfl, rfl, SqT.of ht, atI_nat (j := 1) rfl, b, _, _, _, rfl, rfl, SqL.of hb, at_int fit, q⟩
    | cel i =>
      refine ⟨_, rfl, t, _, 0, _, rfl, rfl, SqT.of ht, atI_nat (j := 0) rfl, rfl, _, rfl, ?_⟩
      rw [dstr, decide_eq_false st_cn]
      refine iteF ⟨_, rfl, t, _, 0, _, rfl, rfl, SqT.of ht, atI_nat (j := 0) rfl, rfl, _, rfl, ?_⟩
      rw [dstr, decide_eq_false st_pc.symm]
      exact iteF ⟨_, rfl, _, rfl, t, _, 1, _, rfl, rfl, SqT.of ht, atI_nat (j := 1) rfl, o, _, _, _, rfl, rfl, SqL.of ho, at_int fit, q⟩
/-- bits put side by side, the first lowest, from place k on -/
def side (f : Sce → Nat) : List Sce → Nat → Nat
  | [], _ => 0
  | s :: r, k => f s * 2 ^ k + side f r (k + 1)
def places (f : Sce → Nat) : List Sce → Nat → List Nat
  | [], _ => []
  | s :: r, k => f s * 2 ^ k :: places f r (k + 1)
theorem places_len (f : Sce → Nat) : ∀ (l : List Sce) (k : Nat), (places f l k).length = l.length
  | [], _ => rfl
  | _ :: r, k => congrArg (· + 1) (places_len f r (k + 1))
theorem places_sum (f : Sce → Nat) : ∀ (l : List Sce) (k : Nat), (places f l k).sum = side f l k
  | [], _ => rfl
  | s :: r, k => by
    show (f s * 2 ^ k :: places f r (k + 1)).sum = _
    rw [List.sum_cons, places_sum f r (k + 1)]
    rfl
theorem places_get (f : Sce → Nat) : ∀ (l : List Sce) (k i : Nat) (s : Sce), l[i]? = some s → (places f l k)[i]? = some (f s * 2 ^ (k + i))
  | x :: r, k, 0, s, h => by
    cases h
    rfl
  | x :: r, k, i + 1, s, h => by
    have := places_get f r (k + 1) i s h
    rw [show k + (i + 1) = k + 1 + i by omega]
    exact this
/-- what a cell's table tells -/
def Cell.bit (outs bits : List Nat) (c : Cell) : Nat := (c.table.toNat / 2 ^ side (Sce.bit outs bits) c.src 0) % 2
theorem Sce.bit_lt {outs bits : List Nat} (h1 : ∀ x ∈ outs, x < 2) (h2 : ∀ x ∈ bits, x < 2) (s : Sce) : s.bit outs bits < 2 := by
  have k : ∀ {xs : List Nat} (_ : ∀ x ∈ xs, x < 2) (i : Nat), xs[i]?.getD 0 < 2 := fun {xs} h i => by
    cases e : xs[i]? with
    | none => exact Nat.zero_lt_two
    | some x => exact h x (List.mem_of_getElem? e)
  cases s with
  | no => exact Nat.zero_lt_two
  | pad i => exact k h2 _
  | cel i => exact k h1 _
def sp__table_bit (K : PySem.W.Frag) : Sp := fun vs H Q _ => ∃ (v : V) (o b : Addr) (c : Cell) (outs bits : List Nat), vs = [v, .ref o, .ref b] ∧ Dv H v c ∧ H o = some (.lst (vn outs)) ∧ H b = some (.lst (vn bits)) ∧ (∀ s ∈ c.src, s.fit outs bits) ∧ c.src.length ≤ 8 ∧ 0 ≤ c.table ∧ (∀ x ∈ outs, x < 2) ∧ (∀ x ∈ bits, x < 2) ∧
  ∀ H', Same H H' → Q (.int (c.bit outs bits : Nat)) H'
theorem ok__table_bit {P : Program} {w : World} {K : PySem.W.Frag} {mg : Str → Option Value} {base : Heap} {C_KindError fI_KindError : Addr} {fd_KindError : FuncData} {C_LoopError fI_LoopError : Addr} {fd_LoopError : FuncData} {B_ : Addr} {mc_ : Value} {tk_MOST_SOURCES : Tok} {f f_bit_of : Addr} {fd fd_bit_of : FuncData} (F : Fun K "_table_bit" "_table_bit" s__table_bit f fd) (T : Txt K mg C_KindError fI_KindError fd_KindError C_LoopError fI_LoopError fd_LoopError B_ mc_ tk_MOST_SOURCES)
    (G__bit_of : FnOk P w K mg base CX0 1 f_bit_of fd_bit_of ["source", "outputs", "bits"] (sp__bit_of K)) (D__bit_of : Def K mg "_bit_of" f_bit_of fd_bit_of ["source", "outputs", "bits"]) :
    FnOk P w K mg base CX0 2 f fd ["cell", "outputs", "bits"] (sp__table_bit K) := by
  refine F.ok sc_table_bit (fun vs H Q E h => ?_) (fun cdv A outer s H vs Q E hr h => ?_)
  · obtain ⟨v, o, b, c, outs, bits, rfl, _⟩ := h
    rfl
  · obtain ⟨v, o, b, c, outs, bits, rfl, hv, ho, hb, fit, few, t0, u2, v2, q⟩ := h
    obtain ⟨a, sl, us, rfl, ha, hsl, hus⟩ := cell_inv hv
    refine ⟨_, (pss_cons (ps_set (i := 3) sc_table_bit.nd rfl (.inl rfl) (pe_callB (cr_sum rfl) (by rfl) T.m_sum (by decide +kernel) (pa_cons (pe_lc (own := [("at", 4), ("source", 5)]) (g := gTup K 2 (gCons (gName 4) (gCons (gName 5) (gNil)))) (tt := tYes) rfl sc_table_bit.nd (pi_enum (by rfl) T.m_enumerate (pa_cons (pe_ix (r := rIxT K) ix_tup (pv 0) pe_int (fun _ _ => rfl)) pa_nil)) (blkOk_by (N := N__table_bit) (sc := defScope s__table_bit) (by decide +kernel)) (fun _ _ _ _ _ => (pg_tup (by rfl) (pgs_cons (pg_name (i := 4) sc_table_bit.nd rfl (Or.inl rfl)) (pgs_cons (pg_name (i := 5) sc_table_bit.nd rfl (Or.inl rfl)) pgs_nil)))) (fun _ _ _ _ _ => pts_nil) (fun _ _ _ _ _ => (pe_op op_shl (pe_call G__bit_of (hr.mono (by omega)) (by rfl) D__bit_of.m D__bit_of.k D__bit_of.b .nil pass0 (pa_cons (pv 5) (pa_cons (pv 1) (pa_cons (pv 2) pa_nil)))) (pv 4)))) pa_nil)))
      (pss_one (ps_ret (pe_op op_and (pe_op op_shr (pe_ix (r := rIxT K) ix_tup (pv 0) pe_int (fun _ _ => rfl)) (pv 3)) pe_int)))), ?_⟩
    refine ⟨_, rfl, a, _, 1, _, rfl, rfl, SqT.of ha, atI_nat (j := 1) rfl, sl, _, rfl, SqL.of hsl, fun D nD => lc_it walk_enum (fun i Hz => Same H Hz ∧ Hz D = some (.lst (vn ((places (Sce.bit outs bits) c.src 0).take i)))) ⟨same_new nD, upd_same⟩ (fun i Hz _ h => SqL.of (h.1 _ _ hsl)) ?_ ?_⟩
    · rintro i v Hz Hz' hi ⟨sz, hD⟩ ⟨T1, x, y, rfl, nT, rfl, ex, ey⟩
      cases ex
      have ey : us[i]? = some y := ey
      obtain ⟨s, hs, ds⟩ := (hus.same sz).at ey
      have sT := same_new (o := .tup [.int (i : Nat), y]) nT
      have sy := sz.trans sT
      have il := (List.getElem?_eq_some_iff.mp hs).1
      refine ⟨T1, _, rfl, SqT.of upd_same, rfl, _, _, rfl, _, _, rfl, rfl, rfl, _, rfl, _, rfl, _, rfl, y, o, b, s, outs, bits, rfl, ds.same sT, sy _ _ ho, sy _ _ hb, fit s (List.mem_of_getElem? hs), _, rfl, _, _, rfl, rfl, ⟨Int.natCast_nonneg _, by omega, ?_⟩, _, sT _ _ hD, ?_, same_mut sy nD, ?_⟩
      · have := Sce.bit_lt u2 v2 s
        rw [Int.natAbs_natCast]
        exact Nat.lt_trans this (by decide)
      · rw [vn_len, List.length_take, places_len]
        exact small1000 (by omega)
      · rw [upd_same, take_snoc (places_get _ _ 0 i s hs), Nat.zero_add]
        show some (HO.lst (vn _ ++ [V.int (((s.bit outs bits : Nat) : Int) * 2 ^ ((i : Nat) : Int).toNat)])) = _
        rw [shl_nat, vn_snoc]
    rintro Hz ⟨sz, hD⟩
    rw [hus.len, ← places_len (Sce.bit outs bits) c.src 0, List.take_length, vn_int] at hD
    refine ⟨D, _, rfl, SqL.of hD, ?_⟩
    obtain ⟨tb, etb⟩ : ∃ tb : Nat, c.table = (tb : Int) := ⟨c.table.toNat, by omega⟩
    refine ⟨_, rfl, a, _, 2, _, rfl, rfl, SqT.of (sz _ _ ha), atI_nat (j := 2) rfl, _, rfl, _, _, rfl, rfl, ?_, _, _, rfl, rfl, ?_⟩
    · rw [sum_int]
      exact Int.natCast_nonneg _
    · have q := q Hz sz
      rw [sum_int, places_sum, etb, shr_nat]
      show Q (V.int (Builtin.bitAnd (((tb / 2 ^ side (Sce.bit outs bits) c.src 0 : Nat)) : Int) 1)) Hz
      rw [band_one]
      unfold Cell.bit at q
      rw [etb, Int.toNat_natCast] at q
      exact q

end K48
namespace K48
open PySem PySem.Spec PyProof.Rows L2 V0
/-! ### the cells that a cell uses in the same cycle -/
def useOf (rows : List Cell) : Sce → Option Nat
  | .cel i => if (rows[i.toNat]?.map Cell.kept) = some 0 then some i.toNat else none
  | _ => none
def usesOf (rows : List Cell) (j : Nat) : List Nat := ((rows[j]?.map Cell.src).getD []).filterMap (useOf rows)
/-- cells among the sources stand among rows -/
def InR (rows : List Cell) : Sce → Prop
  | .cel i => 0 ≤ i ∧ i < (rows.length : Int)
  | _ => True
theorem st_noc : ¬ (("none" : Str) = "cell") := by decide +kernel
theorem usesOf_at {rows : List Cell} {j : Nat} {e : Cell} (h : rows[j]? = some e) : usesOf rows j = e.src.filterMap (useOf rows) := by
  unfold usesOf
  rw [h]
  rfl
theorem useOf_lt {rows : List Cell} {s : Sce} {k : Nat} (h : useOf rows s = some k) : k < rows.length := by
  cases s with
  | no => exact absurd h (by simp [useOf])
  | pad i => exact absurd h (by simp [useOf])
  | cel i =>
    have h : (if (rows[i.toNat]?.map Cell.kept) = some 0 then some i.toNat else none) = some k := h
    by_cases c : rows[i.toNat]?.map Cell.kept = some 0
    · rw [if_pos c] at h
      rw [← Option.some.inj h]
      cases g : rows[i.toNat]? with
      | none =>
        rw [g] at c
        exact absurd c (by simp)
      | some x => exact (List.getElem?_eq_some_iff.mp g).1
    · rw [if_neg c] at h
      exact absurd h (by simp)
theorem usesOf_lt {rows : List Cell} {j k : Nat} (h : k ∈ usesOf rows j) : k < rows.length := by
  obtain ⟨s, _, e⟩ := List.mem_filterMap.mp h
  exact useOf_lt e
theorem usesOf_len {rows : List Cell} {m : Nat} (few : ∀ e ∈ rows, e.src.length ≤ m) (j : Nat) : (usesOf rows j).length ≤ m := by
  unfold usesOf
  refine Nat.le_trans (List.length_filterMap_le _ _) ?_
  cases g : rows[j]? with
  | none => exact Nat.zero_le _
  | some x => exact few x (List.mem_of_getElem? g)
theorem uses_gf {rows : List Cell} (h : rows.length ≤ 1000) : Gf (usesOf rows) (List.range rows.length) := ⟨fun x _ u hu => List.mem_range.mpr (usesOf_lt hu), by rw [List.length_range]; exact h⟩
def sp__uses (K : PySem.W.Frag) : Sp := fun vs H Q _ => ∃ (r : Addr) (us : List V) (rows : List Cell), vs = [.ref r] ∧ H r = some (.lst us) ∧ Dvs H us rows ∧ (∀ e ∈ rows, ∀ s ∈ e.src, InR rows s) ∧ (∀ e ∈ rows, e.src.length ≤ 60) ∧ rows.length ≤ 1000 ∧
  ∀ H' d, Same H H' → UAt H' d (usesOf rows) (List.range rows.length) → Q (.ref d) H'
theorem ok__uses {P : Program} {w : World} {K : PySem.W.Frag} {mg : Str → Option Value} {base : Heap} {C_KindError fI_KindError : Addr} {fd_KindError : FuncData} {C_LoopError fI_LoopError : Addr} {fd_LoopError : FuncData} {B_ : Addr} {mc_ : Value} {tk_MOST_SOURCES : Tok} {f  : Addr} {fd  : FuncData} (F : Fun K "_uses" "_uses" s__uses f fd) (T : Txt K mg C_KindError fI_KindError fd_KindError C_LoopError fI_LoopError fd_LoopError B_ mc_ tk_MOST_SOURCES) :
    FnOk P w K mg base CX0 1 f fd ["rows"] (sp__uses K) := by
  refine F.ok sc_uses (fun vs H Q E h => ?_) (fun cdv A outer s H vs Q E hr h => ?_)
  · obtain ⟨r, us, rows, rfl, _⟩ := h
    rfl
  · obtain ⟨r, us, rows, rfl, hR, hus, inr, few, many, q⟩ := h
    refine ⟨_, (pss_cons (ps_set (i := 1) sc_uses.nd rfl (.inl rfl) pe_dnewK)
      (pss_cons (ps_for PassesOwn.never rfl (pi_enum (by rfl) T.m_enumerate (pa_cons (pv 0) pa_nil)) (pg_tup (by rfl) (pgs_cons (pg_name (i := 2) sc_uses.nd rfl (Or.inl rfl)) (pgs_cons (pg_tup (by rfl) (pgs_cons (pg_name (i := 3) sc_uses.nd rfl (Or.inl rfl)) (pgs_cons (pg_name (i := 4) sc_uses.nd rfl (Or.inl rfl)) (pgs_cons (pg_name (i := 3) sc_uses.nd rfl (Or.inl rfl)) (pgs_cons (pg_name (i := 3) sc_uses.nd rfl (Or.inl rfl)) (pgs_cons (pg_name (i := 3) sc_uses.nd rfl (Or.inl rfl)) pgs_nil)))))) pgs_nil))) (pss_one (ps_dput (hu_of hr) (pv 1) (pv 2) (pe_lc (own := [("source", 5)]) (g := gName 5) rfl sc_uses.nd (pi_list (pv 4)) (blkOk_by (N := N__uses) (sc := defScope s__uses) (by decide +kernel)) (fun _ _ _ _ _ => (pg_name (i := 5) sc_uses.nd rfl (Or.inl rfl))) (fun _ _ _ _ _ => (pts_one (PW.pt (pw_and (pt_cmpR op_eq (pe_ix (r := rIxT K) ix_tup (pv 5) pe_int (fun _ _ => rfl)) pe_str (nomark _)) (pw_and1 (pt_cmpR op_eq (pe_ix (r := rIxT K) ix_tup (pe_ix (r := rIxL K) ix_list (pv 0) (pe_ix (r := rIxT K) ix_tup (pv 5) pe_int (fun _ _ => rfl)) (fun _ _ => rfl)) pe_int (fun _ _ => rfl)) pe_int (nomark _))))))) (fun _ _ _ _ _ => (pe_ix (r := rIxT K) ix_tup (pv 5) pe_int (fun _ _ => rfl)))) rfl)))
      (pss_one (ps_ret (pv 1))))), ?_⟩
    refine fun d nd => ?_
    have s0 := same_new (o := .dK []) nd
    have low : ∀ {Hx : Hp}, Same (hid d H) (hid d Hx) → Same H (hid d Hx) := fun k b o z => k _ _ (hid_of (ne_of_none z nd) z)
    refine ⟨_, rfl, r, _, rfl, SqL.of (s0 _ _ hR), for_it walk_enum (fun i σ Hx => ∃ (y2 y3 y4 : Option V) (kvs : List (Key × V)), σ = [some (.ref r), some (.ref d), y2, y3, y4, none] ∧ Same (hid d H) (hid d Hx) ∧ Hx d = some (.dK kvs) ∧ kvs.length ≤ i ∧ ∀ j, j < i → ∃ l, valV kvs (Sum.inl (j : Int)) = some (.ref l) ∧ (hid d Hx) l = some (.lst (vn (usesOf rows j)))) ⟨none, none, none, [], rfl, hid_mono s0, upd_same, Nat.le_refl _, fun j h => absurd h (Nat.not_lt_zero _)⟩ (fun i σ Hx _ ⟨_, _, _, _, _, k, _⟩ => SqL.of (hid_some (low k _ _ hR)).2) ?_ ?_⟩
    · rintro i v σ Hx Hx' hi ⟨y2, y3, y4, kvs, rfl, k, hd, lk, cov⟩ ⟨T1, x, y, rfl, nT, rfl, ex, ey⟩
      cases ex
      have ey : us[i]? = some y := ey
      obtain ⟨e, he, de⟩ := (hus.same (low k)).at ey
      have de := de.same (hid_same d Hx)
      have sT := same_new (o := .tup [.int (i : Nat), y]) nT
      have eT : (upd Hx T1 (.tup [.int (i : Nat), y])) T1 = some (.tup [.int (i : Nat), y]) := upd_same
      have hd := sT _ _ hd
      have kT := k.trans (hid_mono sT)
      have covT : ∀ j, j < i → ∃ l, valV kvs (Sum.inl (j : Int)) = some (.ref l) ∧ (hid d (upd Hx T1 (.tup [.int (i : Nat), y]))) l = some (.lst (vn (usesOf rows j))) := fun j hj => by
        obtain ⟨l, e1, e2⟩ := cov j hj
        exact ⟨l, e1, hid_mono sT _ _ e2⟩
      obtain ⟨a, sl, ws, rfl, ha, hsl, hws⟩ := cell_inv (de.same sT)
      generalize (upd Hx T1 (.tup [.int (i : Nat), .ref a])) = Hy at eT hd kT covT ha hsl hws ⊢
      have lowy := (low kT).trans (hid_same d Hy)
      refine ⟨T1, _, rfl, SqT.of eT, rfl, _, _, rfl, _, _, rfl, ⟨a, _, rfl, SqT.of ha, rfl, _, _, rfl, _, _, rfl, _, _, rfl, _, _, rfl, _, _, rfl, rfl, rfl, ?_⟩⟩
      refine ⟨_, rfl, sl, rfl, ⟨_, SqL.of hsl⟩, fun D nD => lc_list (xs := ws) (fun k Hz => Same Hy Hz ∧ Hz D = some (.lst (vn ((e.src.take k).filterMap (useOf rows))))) ⟨same_new nD, upd_same⟩ (fun k Hz _ h => SqL.of (h.1 _ _ hsl)) ?_ ?_⟩
      · rintro k u Hz hu ⟨sz, hD⟩
        obtain ⟨s, hs, ds⟩ := (hws.same sz).at hu
        obtain ⟨t, rfl, ht⟩ := sce_inv ds
        have sm := List.mem_of_getElem? hs
        have kl := (List.getElem?_eq_some_iff.mp hs).1
        have sl60 := few e (List.mem_of_getElem? he)
        have no : useOf rows s = none → Same Hy Hz ∧ Hz D = some (.lst (vn ((e.src.take (k + 1)).filterMap (useOf rows)))) := fun z => by
          refine ⟨sz, ?_⟩
          rw [take_snoc hs, List.filterMap_append]
          have : [s].filterMap (useOf rows) = [] := by simp [z]
          rw [this, List.append_nil]
          exact hD
        cases s with
        | no =>
          refine ⟨rfl, _, rfl, t, _, 0, _, rfl, rfl, SqT.of ht, atI_nat (j := 0) rfl, rfl, _, rfl, ?_⟩
          rw [dstr, decide_eq_false st_noc]
          exact iteF (iteF (no rfl))
        | pad i' =>
          refine ⟨rfl, _, rfl, t, _, 0, _, rfl, rfl, SqT.of ht, atI_nat (j := 0) rfl, rfl, _, rfl, ?_⟩
          rw [dstr, decide_eq_false st_pc]
          exact iteF (iteF (no rfl))
        | cel i' =>
          have rng : 0 ≤ i' ∧ i' < (rows.length : Int) := inr e (List.mem_of_getElem? he) _ sm
          obtain ⟨n, rfl⟩ : ∃ n : Nat, i' = (n : Int) := ⟨i'.toNat, by omega⟩
          have hn := List.getElem?_eq_getElem (l := rows) (show n < rows.length by omega)
          generalize rows[n] = e2 at hn
          obtain ⟨u2, hu2, du2⟩ := ((hus.same lowy).same sz).get hn
          obtain ⟨a2, sl2, ws2, rfl, ha2, _⟩ := cell_inv du2
          have uo : useOf rows (.cel (n : Int)) = if e2.kept = 0 then some n else none := by
            show (if (rows[((n : Nat) : Int).toNat]?.map Cell.kept) = some 0 then some ((n : Nat) : Int).toNat else none) = _
            rw [Int.toNat_natCast, hn]
            by_cases c : e2.kept = 0
            · rw [if_pos c, if_pos (by show some e2.kept = some 0; rw [c])]
            · have nc : ¬ (Option.map Cell.kept (some e2) = some 0) := fun z => c (Option.some.inj z)
              rw [if_neg c, if_neg nc]
          refine ⟨rfl, _, rfl, t, _, 0, _, rfl, rfl, SqT.of ht, atI_nat (j := 0) rfl, rfl, _, rfl, ?_⟩
          rw [dstr, decide_eq_true rfl]
          refine iteT ⟨_, rfl, _, rfl, t, _, 1, _, rfl, rfl, SqT.of ht, atI_nat (j := 1) rfl, r, _, _, _, rfl, rfl, SqL.of (sz _ _ (lowy _ _ hR)), atI_nat hu2, a2, _, 3, _, rfl, rfl, SqT.of ha2, atI_nat (j := 3) rfl, rfl, _, rfl, ?_⟩
          rw [show decide (V.int e2.kept = V.int 0) = decide (e2.kept = 0) from decide_eq_decide.mpr ⟨fun h => V.int.inj h, fun h => by rw [h]⟩]
          by_cases c : e2.kept = 0
          · rw [decide_eq_true c]
            rw [if_pos c] at uo
            refine iteT ⟨_, rfl, t, _, 1, _, rfl, rfl, SqT.of ht, atI_nat (j := 1) rfl, _, hD, ?_, same_mut sz nD, ?_⟩
            · rw [vn_len]
              have := List.length_filterMap_le (useOf rows) (e.src.take k)
              rw [List.length_take] at this
              exact small1000 (by omega)
            · rw [upd_same, take_snoc hs, List.filterMap_append, vn_snoc]
              have : [Sce.cel (n : Int)].filterMap (useOf rows) = [n] := by simp [uo]
              rw [this]
          · rw [decide_eq_false c]
            rw [if_neg c] at uo
            exact iteF (no uo)
      rintro Hz ⟨sz, hD⟩
      rw [hws.len, List.take_length, ← usesOf_at he] at hD
      have hdz := sz _ _ hd
      have dD : d ≠ D := ne_of_none hd nD
      refine ⟨_, rfl, _, rfl, d, _, rfl, DPut.k (k := Sum.inl (i : Int)) hdz (small1000 (by have := (List.getElem?_eq_some_iff.mp he).1; omega)), ?_⟩
      refine ⟨_, _, _, _, rfl, (kT.trans (hid_mono sz)).trans hid_mut, upd_same, Nat.le_trans (length_putK _ _ _) (by omega), fun j hj => ?_⟩
      by_cases c : j < i
      · obtain ⟨l, e1, e2⟩ := covT j c
        refine ⟨l, ?_, ((hid_mono sz).trans hid_mut) _ _ e2⟩
        rw [valV_put, if_neg (fun z : (Sum.inl (j : Int) : Key) = Sum.inl (i : Int) => by have := Sum.inl.inj z; omega)]
        exact e1
      · have : j = i := by omega
        subst this
        exact ⟨D, by rw [valV_put, if_pos rfl], hid_of dD.symm (by rw [upd_ne dD.symm]; exact hD)⟩
    · rintro σ Hx ⟨y2, y3, y4, kvs, rfl, k, hd, lk, cov⟩
      rw [hus.len] at cov
      refine ⟨_, rfl, q Hx d ((low k).trans (hid_same _ _)) ⟨kvs, hd, fun x hx => ?_⟩⟩
      obtain ⟨l, e1, e2⟩ := cov x (List.mem_range.mp hx)
      exact ⟨l, e1, (hid_some e2).2⟩

end K48
namespace K48
open PySem PySem.Spec PyProof.Rows L2 V0
/-! ### the order of the cells that are not kept -/
def isFree (rows : List Cell) (j : Nat) : Bool := decide ((rows[j]?.map Cell.kept) = some 0)
def freeOf (rows : List Cell) : List Nat := (List.range rows.length).filter (isFree rows)
theorem useOf_free {rows : List Cell} {s : Sce} {k : Nat} (h : useOf rows s = some k) : isFree rows k = true := by
  cases s with
  | no => exact absurd h (by simp [useOf])
  | pad i => exact absurd h (by simp [useOf])
  | cel i =>
    have h : (if (rows[i.toNat]?.map Cell.kept) = some 0 then some i.toNat else none) = some k := h
    by_cases c : rows[i.toNat]?.map Cell.kept = some 0
    · rw [if_pos c] at h
      rw [← Option.some.inj h]
      exact decide_eq_true c
    · rw [if_neg c] at h
      exact absurd h (by simp)
theorem free_gf {rows : List Cell} (h : rows.length ≤ 1000) : Gf (usesOf rows) (freeOf rows) := by
  refine ⟨fun x _ u hu => ?_, Nat.le_trans (List.length_filter_le _ _) (by rw [List.length_range]; exact h)⟩
  obtain ⟨s, _, e⟩ := List.mem_filterMap.mp hu
  exact List.mem_filter.mpr ⟨List.mem_range.mpr (useOf_lt e), useOf_free e⟩
def sp__order (K : PySem.W.Frag) : Sp := fun vs H Q _ => ∃ (v : V) (c : Cells), vs = [v] ∧ Dv H v c ∧ (∀ e ∈ c.rows, ∀ s ∈ e.src, InR c.rows s) ∧ (∀ e ∈ c.rows, e.src.length ≤ 60) ∧ c.rows.length ≤ 1000 ∧
  ∀ H' l (done : List Nat), Same H H' → H l = none → H' l = some (.lst (vn done)) → Fin (usesOf c.rows) done → (∀ y, y ∈ done ↔ y ∈ freeOf c.rows) → done.length ≤ 1000 → Q (.ref l) H'
theorem ok__order {P : Program} {w : World} {K : PySem.W.Frag} {mg : Str → Option Value} {base : Heap} {C_KindError fI_KindError : Addr} {fd_KindError : FuncData} {C_LoopError fI_LoopError : Addr} {fd_LoopError : FuncData} {B_ : Addr} {mc_ : Value} {tk_MOST_SOURCES : Tok} {f ffinished f_uses : Addr} {fd fdfinished fd_uses : FuncData} (F : Fun K "_order" "_order" s__order f fd) (T : Txt K mg C_KindError fI_KindError fd_KindError C_LoopError fI_LoopError fd_LoopError B_ mc_ tk_MOST_SOURCES)
    (G_finished : FnOk P w K mg base CX0 2 ffinished fdfinished ["names", "uses"] (sp_finished K)) (D_finished : Def K mg "finished" ffinished fdfinished ["names", "uses"])
    (G__uses : FnOk P w K mg base CX0 1 f_uses fd_uses ["rows"] (sp__uses K)) (D__uses : Def K mg "_uses" f_uses fd_uses ["rows"]) :
    FnOk P w K mg base CX0 3 f fd ["cells"] (sp__order K) := by
  refine F.ok sc_order (fun vs H Q E h => ?_) (fun cdv A outer s H vs Q E hr h => ?_)
  · obtain ⟨v, c, rfl, _⟩ := h
    rfl
  · obtain ⟨v, c, rfl, hv, inr, few, many, q⟩ := h
    obtain ⟨a, b, o, us, ws, rfl, ha, hb, hus, ho, hws⟩ := cells_inv hv
    refine ⟨_, (pss_cons (ps_set (i := 1) sc_order.nd rfl (.inl rfl) (pe_ix (r := rIxT K) ix_tup (pv 0) pe_int (fun _ _ => rfl)))
      (pss_one (ps_ret (pe_call G_finished (hr.mono (by omega)) (by rfl) D_finished.m D_finished.k D_finished.b .nil pass0 (pa_cons (pe_lc (own := [("j", 2), ("cell", 3)]) (g := gTup K 2 (gCons (gName 2) (gCons (gName 3) (gNil)))) rfl sc_order.nd (pi_enum (by rfl) T.m_enumerate (pa_cons (pv 1) pa_nil)) (blkOk_by (N := N__order) (sc := defScope s__order) (by decide +kernel)) (fun _ _ _ _ _ => (pg_tup (by rfl) (pgs_cons (pg_name (i := 2) sc_order.nd rfl (Or.inl rfl)) (pgs_cons (pg_name (i := 3) sc_order.nd rfl (Or.inl rfl)) pgs_nil)))) (fun _ _ _ _ _ => (pts_one (pt_cmpR op_eq (pe_ix (r := rIxT K) ix_tup (pv 3) pe_int (fun _ _ => rfl)) pe_int (nomark _)))) (fun _ _ _ _ _ => (pv 2))) (pa_cons (pe_call G__uses (hr.mono (by omega)) (by rfl) D__uses.m D__uses.k D__uses.b .nil pass0 (pa_cons (pv 1) pa_nil)) pa_nil)))))), ?_⟩
    refine ⟨_, rfl, a, _, 2, _, rfl, rfl, SqT.of ha, atI_nat (j := 2) rfl, ?_⟩
    refine ⟨_, rfl, b, _, rfl, SqL.of hb, fun D nD => lc_it walk_enum (fun i Hz => Same H Hz ∧ Hz D = some (.lst (vn ((List.range i).filter (isFree c.rows))))) ⟨same_new nD, upd_same⟩ (fun i Hz _ h => SqL.of (h.1 _ _ hb)) ?_ ?_⟩
    · rintro i v Hz Hz' hi ⟨sz, hD⟩ ⟨T1, x, y, rfl, nT, rfl, ex, ey⟩
      cases ex
      have ey : us[i]? = some y := ey
      obtain ⟨e, he, de⟩ := (hus.same sz).at ey
      have il := (List.getElem?_eq_some_iff.mp he).1
      have sT := same_new (o := .tup [.int (i : Nat), y]) nT
      obtain ⟨a1, sl, ws1, rfl, ha1, _⟩ := cell_inv (de.same sT)
      refine ⟨T1, _, rfl, SqT.of upd_same, rfl, _, _, rfl, _, _, rfl, rfl, rfl, _, rfl, a1, _, 3, _, rfl, rfl, SqT.of ha1, atI_nat (j := 3) rfl, rfl, _, rfl, ?_⟩
      rw [show decide (V.int e.kept = V.int 0) = decide (e.kept = 0) from decide_eq_decide.mpr ⟨fun h => V.int.inj h, fun h => by rw [h]⟩]
      have fr : isFree c.rows i = decide (e.kept = 0) := by
        unfold isFree
        rw [he]
        exact decide_eq_decide.mpr ⟨fun h => Option.some.inj h, fun h => congrArg some h⟩
      by_cases k : e.kept = 0
      · rw [decide_eq_true k] at fr ⊢
        refine iteT ⟨_, rfl, _, sT _ _ hD, ?_, same_mut (sz.trans sT) nD, ?_⟩
        · rw [vn_len]
          exact small1000 (Nat.le_trans (List.length_filter_le _ _) (by rw [List.length_range]; omega))
        · rw [upd_same, vn_snoc, List.range_succ, List.filter_append, show [i].filter (isFree c.rows) = [i] by simp [fr]]
      · rw [decide_eq_false k] at fr ⊢
        refine iteF ⟨sz.trans sT, ?_⟩
        rw [List.range_succ, List.filter_append, show [i].filter (isFree c.rows) = [] by simp [fr], List.append_nil]
        exact sT _ _ hD
    rintro H1 ⟨s1, hD⟩
    rw [hus.len] at hD
    have hD : H1 D = some (.lst (vn (freeOf c.rows))) := hD
    refine ⟨_, rfl, b, us, c.rows, rfl, s1 _ _ hb, hus.same s1, inr, few, many, fun H2 d s2 hU => ?_⟩
    have hU2 : UAt H2 d (usesOf c.rows) (freeOf c.rows) := by
      obtain ⟨kvs, e, f⟩ := hU
      exact ⟨kvs, e, fun x hx => f x (List.mem_filter.mp hx).1⟩
    exact ⟨D, d, usesOf c.rows, freeOf c.rows, rfl, free_gf many, s2 _ _ hD, hU2, fun H3 l done s3 nl el fin mem len => q H3 l done (s1.trans (s2.trans s3)) (none_of (s1.trans s2) nl) el fin mem len⟩

end K48
namespace K48
open PySem PySem.Spec PyProof.Rows L2 V0
/-! ### what cells tell in a cycle -/
/-- what a source tells, where a cell that is not kept tells f -/
def Sce.told (rows : List Cell) (held bits : List Nat) (f : Nat → Nat) : Sce → Nat
  | .no => 0
  | .pad i => bits[i.toNat]?.getD 0
  | .cel i => if isFree rows i.toNat = true then f i.toNat else held[i.toNat]?.getD 0
def lvl (rows : List Cell) (held bits : List Nat) : Nat → Nat → Nat
  | 0, _ => 0
  | M + 1, j => match rows[j]? with
    | none => 0
    | some e => (e.table.toNat / 2 ^ side (Sce.told rows held bits (lvl rows held bits M)) e.src 0) % 2
theorem lvl_at {rows : List Cell} {held bits : List Nat} {M j : Nat} {e : Cell} (h : rows[j]? = some e) : lvl rows held bits (M + 1) j = (e.table.toNat / 2 ^ side (Sce.told rows held bits (lvl rows held bits M)) e.src 0) % 2 := by
  show (match rows[j]? with | none => 0 | some e => (e.table.toNat / 2 ^ side (Sce.told rows held bits (lvl rows held bits M)) e.src 0) % 2) = _
  rw [h]
theorem lvl_lt {rows : List Cell} {held bits : List Nat} : ∀ M j, lvl rows held bits M j < 2
  | 0, _ => Nat.zero_lt_two
  | M + 1, j => by
    cases h : rows[j]? with
    | none =>
      show (match rows[j]? with | none => 0 | some e => (e.table.toNat / 2 ^ side (Sce.told rows held bits (lvl rows held bits M)) e.src 0) % 2) < 2
      rw [h]
      exact Nat.zero_lt_two
    | some e =>
      rw [lvl_at h]
      exact Nat.mod_lt _ (by decide)
theorem side_congr {f g : Sce → Nat} : ∀ {l : List Sce} {k : Nat}, (∀ s ∈ l, f s = g s) → side f l k = side g l k
  | [], _, _ => rfl
  | s :: r, k, h => by
    show f s * 2 ^ k + side f r (k + 1) = g s * 2 ^ k + side g r (k + 1)
    rw [h s List.mem_cons_self, side_congr fun t ht => h t (List.mem_cons_of_mem _ ht)]
/-- sources that stand there and tell the same -/
theorem told_congr {rows : List Cell} {held bits : List Nat} {f g : Nat → Nat} {j : Nat} {e : Cell} (he : rows[j]? = some e) (inr : ∀ s ∈ e.src, InR rows s) (h : ∀ u ∈ usesOf rows j, f u = g u) : ∀ s ∈ e.src, s.told rows held bits f = s.told rows held bits g := fun s hs => by
  cases s with
  | no => rfl
  | pad i => rfl
  | cel i =>
    show (if isFree rows i.toNat = true then f i.toNat else held[i.toNat]?.getD 0) = (if isFree rows i.toNat = true then g i.toNat else held[i.toNat]?.getD 0)
    by_cases c : isFree rows i.toNat = true
    · rw [if_pos c, if_pos c]
      refine h _ ?_
      rw [usesOf_at he]
      refine List.mem_filterMap.mpr ⟨_, hs, ?_⟩
      show (if (rows[i.toNat]?.map Cell.kept) = some 0 then some i.toNat else none) = some i.toNat
      rw [if_pos (of_decide_eq_true c)]
    · rw [if_neg c, if_neg c]
theorem Kos.topo {U : Nat → List Nat} {l : List Nat} (h : Kos U l) (no : ∀ y ∈ l, ¬ OnC U y) : Topo U l := by
  induction h with
  | nil => exact .nil
  | @snoc l x _ _ hu ih =>
    refine .snoc (ih fun y hy => no y (List.mem_append_left _ hy)) fun u hx => ?_
    rcases hu u hx with k | k
    · exact k
    · exact absurd ⟨u, hx, k⟩ (no x (List.mem_append_right _ List.mem_cons_self))
/-- behind its place in the order a cell's level no longer counts -/
theorem lvl_fix {rows : List Cell} {held bits order : List Nat} (inr : ∀ e ∈ rows, ∀ s ∈ e.src, InR rows s) (tp : Topo (usesOf rows) order) : ∀ p j, order[p]? = some j → ∀ M, p < M → lvl rows held bits M j = lvl rows held bits order.length j := by
  intro p
  induction p using Nat.strongRecOn with
  | _ p ih =>
    intro j hj M hM
    have pl := (List.getElem?_eq_some_iff.mp hj).1
    obtain ⟨M', rfl⟩ : ∃ M', M = M' + 1 := ⟨M - 1, by omega⟩
    obtain ⟨N', hN⟩ : ∃ N', order.length = N' + 1 := ⟨order.length - 1, by omega⟩
    have ih' : ∀ u ∈ usesOf rows j, lvl rows held bits M' u = lvl rows held bits N' u := fun u hu => by
      have m := tp.at hj u hu
      obtain ⟨q, hq, eq⟩ := List.mem_iff_getElem.mp m
      rw [List.length_take] at hq
      rw [List.getElem_take] at eq
      have hu2 : order[q]? = some u := by rw [List.getElem?_eq_getElem (by omega), eq]
      rw [ih q (by omega) u hu2 M' (by omega), ih q (by omega) u hu2 N' (by omega)]
    rw [hN]
    cases he : rows[j]? with
    | none =>
      show (match rows[j]? with | none => 0 | some e => _) = (match rows[j]? with | none => 0 | some e => _)
      rw [he]
    | some e =>
      rw [lvl_at he, lvl_at he, side_congr (told_congr he (inr e (List.mem_of_getElem? he)) ih')]
theorem lvl_next {rows : List Cell} {held bits order : List Nat} (inr : ∀ e ∈ rows, ∀ s ∈ e.src, InR rows s) (tp : Topo (usesOf rows) order) (mem : ∀ y, y ∈ order ↔ y ∈ freeOf rows) {M j : Nat} (hM : order.length < M) : lvl rows held bits M j = lvl rows held bits (order.length + 1) j := by
  obtain ⟨M', rfl⟩ : ∃ M', M = M' + 1 := ⟨M - 1, by omega⟩
  cases he : rows[j]? with
  | none =>
    show (match rows[j]? with | none => 0 | some e => _) = (match rows[j]? with | none => 0 | some e => _)
    rw [he]
  | some e =>
    rw [lvl_at he, lvl_at he, side_congr (told_congr he (inr e (List.mem_of_getElem? he)) fun u hu => ?_)]
    obtain ⟨s, _, es⟩ := List.mem_filterMap.mp hu
    have uo := (mem u).mpr (List.mem_filter.mpr ⟨List.mem_range.mpr (useOf_lt es), useOf_free es⟩)
    obtain ⟨q, hq⟩ := List.getElem?_of_mem uo
    have ql := (List.getElem?_eq_some_iff.mp hq).1
    rw [lvl_fix inr tp q u hq M' (by omega)]

end K48
namespace K48
open PySem PySem.Spec PyProof.Rows L2 V0
/-! ### a cycle of cells -/
structure COk (c : Cells) : Prop where
  thr : ∀ e ∈ c.rows, ∀ s ∈ e.src, c.there s = true
  few : ∀ e ∈ c.rows, e.src.length ≤ 4
  t0 : ∀ e ∈ c.rows, 0 ≤ e.table
  kp : ∀ e ∈ c.rows, e.kept = 0 ∨ e.kept = 1
  ot : ∀ s ∈ c.outs, c.there s = true
  many : c.rows.length ≤ 1000
  ol : c.outs.length ≤ 1000
  st : ∀ e ∈ c.rows, e.start = 0 ∨ e.start = 1
theorem COk.inr {c : Cells} (h : COk c) : ∀ e ∈ c.rows, ∀ s ∈ e.src, InR c.rows s := fun e he s hs => by
  have t := h.thr e he s hs
  cases s with
  | no => exact True.intro
  | pad i => exact True.intro
  | cel i =>
    have t : 0 ≤ i ∧ i < (c.rows.length : Int) := of_decide_eq_true t
    exact t
theorem there_fit {c : Cells} {s : Sce} {os bits : List Nat} (t : c.there s = true) (ho : os.length = c.rows.length) (hb : bits.length = c.ins) : s.fit os bits := by
  cases s with
  | no => exact True.intro
  | pad i =>
    have t : 0 ≤ i ∧ i < (c.ins : Int) := of_decide_eq_true t
    exact ⟨t.1, by rw [hb]; exact t.2⟩
  | cel i =>
    have t : 0 ≤ i ∧ i < (c.rows.length : Int) := of_decide_eq_true t
    exact ⟨t.1, by rw [ho]; exact t.2⟩
def afterOf (c : Cells) (held bits : List Nat) (M : Nat) : List Nat := (List.range c.rows.length).map fun j => if (c.rows[j]?.map Cell.kept) = some 1 then lvl c.rows held bits M j else 0
/-- the outputs when the first p of the order have told -/
structure OS (c : Cells) (order held bits : List Nat) (p : Nat) (os : List Nat) : Prop where
  l : os.length = c.rows.length
  b : ∀ x ∈ os, x < 2
  v : ∀ j, j < c.rows.length → os[j]?.getD 0 = if j ∈ order.take p then lvl c.rows held bits order.length j else held[j]?.getD 0
section
variable {c : Cells} {order held bits os : List Nat} {p j : Nat} {e : Cell}
theorem OS.told (h : OS c order held bits p os) (mem : ∀ y, y ∈ order ↔ y ∈ freeOf c.rows) {s : Sce} (t : c.there s = true) (before : ∀ u, useOf c.rows s = some u → u ∈ order.take p) : s.bit os bits = s.told c.rows held bits (lvl c.rows held bits order.length) := by
  cases s with
  | no => rfl
  | pad i => rfl
  | cel i =>
    have t : 0 ≤ i ∧ i < (c.rows.length : Int) := of_decide_eq_true t
    have il : i.toNat < c.rows.length := by omega
    show os[i.toNat]?.getD 0 = if isFree c.rows i.toNat = true then lvl c.rows held bits order.length i.toNat else held[i.toNat]?.getD 0
    rw [h.v _ il]
    by_cases k : isFree c.rows i.toNat = true
    · have m := before i.toNat (by
        show (if (c.rows[i.toNat]?.map Cell.kept) = some 0 then some i.toNat else none) = some i.toNat
        rw [if_pos (of_decide_eq_true k)])
      rw [if_pos m, if_pos k]
    · rw [if_neg (fun m => k (List.mem_filter.mp ((mem _).mp (List.mem_of_mem_take m))).2), if_neg k]
theorem OS.bit (h : OS c order held bits p os) (mem : ∀ y, y ∈ order ↔ y ∈ freeOf c.rows) (he : c.rows[j]? = some e) (thr : ∀ s ∈ e.src, c.there s = true) (before : ∀ u ∈ usesOf c.rows j, u ∈ order.take p) : e.bit os bits = lvl c.rows held bits (order.length + 1) j := by
  rw [lvl_at he]
  unfold Cell.bit
  rw [side_congr fun s hs => h.told mem (thr s hs) fun u hu => before u (by rw [usesOf_at he]; exact List.mem_filterMap.mpr ⟨s, hs, hu⟩)]
theorem OS.put (h : OS c order held bits p os) (hj : order[p]? = some j) (jl : j < c.rows.length) : OS c order held bits (p + 1) (os.set j (lvl c.rows held bits order.length j)) := by
  refine ⟨by rw [List.length_set]; exact h.l, fun x hx => ?_, fun k hk => ?_⟩
  · rcases List.mem_or_eq_of_mem_set hx with hx | rfl
    · exact h.b x hx
    · exact lvl_lt _ _
  · rw [take_snoc hj, List.getElem?_set]
    by_cases e : j = k
    · subst e
      rw [if_pos rfl, if_pos (by rw [h.l]; exact hk), if_pos (List.mem_append_right _ List.mem_cons_self)]
      rfl
    · rw [if_neg e, h.v k hk]
      have : (k ∈ order.take p ++ [j]) ↔ k ∈ order.take p := by
        rw [List.mem_append, List.mem_singleton]
        exact ⟨fun z => z.resolve_right fun z => e z.symm, .inl⟩
      by_cases m : k ∈ order.take p
      · rw [if_pos m, if_pos (this.mpr m)]
      · rw [if_neg m, if_neg (fun z => m (this.mp z))]
end
theorem set_vn (xs : List Nat) (j z : Nat) : (vn xs).set j (V.int (z : Nat)) = vn (xs.set j z) := by
  unfold vn
  rw [List.map_set]
def sp__stepped (K : PySem.W.Frag) : Sp := fun vs H Q _ => ∃ (v : V) (o h b : Addr) (c : Cells) (order held bits : List Nat), vs = [v, .ref o, .ref h, .ref b] ∧ Dv H v c ∧ COk c ∧ H o = some (.lst (vn order)) ∧ H h = some (.lst (vn held)) ∧ H b = some (.lst (vn bits)) ∧
  Topo (usesOf c.rows) order ∧ (∀ y, y ∈ order ↔ y ∈ freeOf c.rows) ∧ held.length = c.rows.length ∧ bits.length = c.ins ∧ (∀ x ∈ held, x < 2) ∧ (∀ x ∈ bits, x < 2) ∧
  ∀ H' z t1 t2, Same H H' → H t1 = none → H t2 = none → H' z = some (.tup [.ref t1, .ref t2]) → H' t1 = some (.lst (vn (c.outs.map (Sce.told c.rows held bits (lvl c.rows held bits order.length))))) → H' t2 = some (.lst (vn (afterOf c held bits (order.length + 1)))) → Q (.ref z) H'
theorem ok__stepped {P : Program} {w : World} {K : PySem.W.Frag} {mg : Str → Option Value} {base : Heap} {C_KindError fI_KindError : Addr} {fd_KindError : FuncData} {C_LoopError fI_LoopError : Addr} {fd_LoopError : FuncData} {B_ : Addr} {mc_ : Value} {tk_MOST_SOURCES : Tok} {f f_table_bit f_bit_of : Addr} {fd fd_table_bit fd_bit_of : FuncData} (F : Fun K "_stepped" "_stepped" s__stepped f fd) (T : Txt K mg C_KindError fI_KindError fd_KindError C_LoopError fI_LoopError fd_LoopError B_ mc_ tk_MOST_SOURCES)
    (G__table_bit : FnOk P w K mg base CX0 2 f_table_bit fd_table_bit ["cell", "outputs", "bits"] (sp__table_bit K)) (D__table_bit : Def K mg "_table_bit" f_table_bit fd_table_bit ["cell", "outputs", "bits"])
    (G__bit_of : FnOk P w K mg base CX0 1 f_bit_of fd_bit_of ["source", "outputs", "bits"] (sp__bit_of K)) (D__bit_of : Def K mg "_bit_of" f_bit_of fd_bit_of ["source", "outputs", "bits"]) :
    FnOk P w K mg base CX0 3 f fd ["cells", "order", "state", "bits"] (sp__stepped K) := by
  refine F.ok sc_stepped (fun vs H Q E h => ?_) (fun cdv A outer s H vs Q E hr h => ?_)
  · obtain ⟨v, o, h, b, c, order, held, bits, rfl, _⟩ := h
    rfl
  · obtain ⟨v, o, h, b, c, order, held, bits, rfl, hv, ok, hO, hh, hb, tp, mem, hl, bl, h2, b2, q⟩ := h
    obtain ⟨a, rw, oo, us, ws, rfl, ha, hR, hus, hW, hws⟩ := cells_inv hv
    have many := ok.many
    refine ⟨_, (pss_cons (ps_asg (pv 0) (pg_tup (by rfl) (pgs_cons (pg_name (i := 4) sc_stepped.nd rfl (Or.inl rfl)) (pgs_cons (pg_name (i := 4) sc_stepped.nd rfl (Or.inl rfl)) (pgs_cons (pg_name (i := 5) sc_stepped.nd rfl (Or.inl rfl)) (pgs_cons (pg_name (i := 6) sc_stepped.nd rfl (Or.inl rfl)) pgs_nil))))))
      (pss_cons (ps_set (i := 7) sc_stepped.nd rfl (.inr rfl) (pe_callTy call_list_of (by rfl) T.m_list (by decide +kernel) (pa_cons (pv 2) pa_nil)))
      (pss_cons (ps_for PassesOwn.never rfl (pi_list (pv 1)) (pg_name (i := 8) sc_stepped.nd rfl (Or.inl rfl)) (pss_one (ps_asg (pe_call G__table_bit (hr.mono (by omega)) (by rfl) D__table_bit.m D__table_bit.k D__table_bit.b .nil pass0 (pa_cons (pe_ix (r := rIxL K) ix_list (pv 5) (pv 8) (fun _ _ => rfl)) (pa_cons (pv 7) (pa_cons (pv 3) pa_nil)))) (pg_sub (pv 7) (pv 8) set_list))))
      (pss_cons (ps_setLc (i := 9) (own := [("cell", 10)]) (g := gName 10) (tt := tYes) rfl sc_stepped.nd rfl rfl (sw_true rfl rfl rfl (by decide +kernel)) (pi_list (pv 5)) (blkOk_by (N := N__stepped) (sc := defScope s__stepped) (by decide +kernel)) (fun _ _ _ _ _ => (pg_name (i := 10) sc_stepped.nd rfl (Or.inl rfl))) (fun _ _ _ _ _ => pts_nil) (fun _ _ _ _ _ => (pe_ifExp (pt_cmpR op_eq (pe_ix (r := rIxT K) ix_tup (pv 10) pe_int (fun _ _ => rfl)) pe_int (nomark _)) (pe_call G__table_bit (hr.mono (by omega)) (by rfl) D__table_bit.m D__table_bit.k D__table_bit.b .nil pass0 (pa_cons (pv 10) (pa_cons (pv 7) (pa_cons (pv 3) pa_nil)))) pe_int)))
      (pss_one (ps_ret (pe_tup (pa_cons (pe_lc (own := [("source", 11)]) (g := gName 11) (tt := tYes) rfl sc_stepped.nd (pi_list (pv 6)) (blkOk_by (N := N__stepped) (sc := defScope s__stepped) (by decide +kernel)) (fun _ _ _ _ _ => (pg_name (i := 11) sc_stepped.nd rfl (Or.inl rfl))) (fun _ _ _ _ _ => pts_nil) (fun _ _ _ _ _ => (pe_call G__bit_of (hr.mono (by omega)) (by rfl) D__bit_of.m D__bit_of.k D__bit_of.b .nil pass0 (pa_cons (pv 11) (pa_cons (pv 7) (pa_cons (pv 3) pa_nil)))))) (pa_cons (pv 9) pa_nil))))))))), ?_⟩
    refine ⟨_, rfl, a, _, rfl, SqT.of ha, rfl, _, _, rfl, _, _, rfl, _, _, rfl, _, _, rfl, rfl, ?_⟩
    refine ⟨_, rfl, h, _, rfl, .inl (SqL.of hh), fun ob nob => ?_⟩
    have s1 := same_new (o := .lst (vn held)) nob
    have ho1 : (upd H ob (.lst (vn held))) ob = some (.lst (vn held)) := upd_same
    generalize (upd H ob (.lst (vn held))) = H1 at s1 ho1 ⊢
    have os0 : OS c order held bits 0 held := ⟨hl, h2, fun j _ => by rw [if_neg (by simp)]⟩
    have low : ∀ {Hx : Hp}, Same (hid ob H) (hid ob Hx) → Same H Hx := fun k b o z => (hid_some (k _ _ (hid_of (ne_of_none z nob) z))).2
    refine ⟨_, rfl, o, rfl, ⟨_, SqL.of (s1 _ _ hO)⟩, for_list (xs := vn order) (fun p σ Hx => ∃ (y8 : Option V) (os : List Nat), σ = [some (.ref a), some (.ref o), some (.ref h), some (.ref b), some (.int (c.ins : Nat)), some (.ref rw), some (.ref oo), some (.ref ob), y8, none, none, none] ∧ Same (hid ob H) (hid ob Hx) ∧ Hx ob = some (.lst (vn os)) ∧ OS c order held bits p os) ⟨none, held, rfl, hid_mono s1, ho1, os0⟩ (fun p σ Hx _ ⟨_, _, _, k, _⟩ => SqL.of (low k _ _ hO)) ?_ ?_⟩
    · rintro p v σ Hx hv ⟨y8, os, rfl, k, hos, st⟩
      obtain ⟨j, hj, rfl⟩ : ∃ x, order[p]? = some x ∧ v = V.int (x : Nat) := by
        unfold vn at hv
        rw [List.getElem?_map] at hv
        obtain ⟨x, e1, e2⟩ := Option.map_eq_some_iff.mp hv
        exact ⟨x, e1, e2.symm⟩
      have jl : j < c.rows.length := List.mem_range.mp (List.mem_filter.mp ((mem j).mp (List.mem_of_getElem? hj))).1
      have he := List.getElem?_eq_getElem jl
      generalize c.rows[j] = e at he
      have em := List.mem_of_getElem? he
      obtain ⟨u, hu, du⟩ := (hus.same (low k)).get he
      have few := ok.few e em
      refine ⟨_, rfl, _, rfl, rw, _, _, _, rfl, rfl, SqL.of (low k _ _ hR), atI_nat hu, _, rfl, _, rfl, u, ob, b, e, os, bits, rfl, du, hos, low k _ _ hb, (fun s hs => there_fit (ok.thr e em s hs) st.l bl), by omega, ok.t0 e em, st.b, b2, fun Hy sy => ?_⟩
      rw [st.bit mem he (ok.thr e em) (tp.at hj), lvl_fix ok.inr tp p j hj (order.length + 1) (by have := (List.getElem?_eq_some_iff.mp hj).1; omega)]
      refine ⟨_, rfl, _, rfl, ob, _, _, j, rfl, rfl, sy _ _ hos, ix_nat (by rw [vn_len, st.l]; exact jl), ?_⟩
      rw [set_vn]
      exact ⟨_, _, rfl, (k.trans (hid_mono sy)).trans hid_mut, upd_same, st.put hj jl⟩
    rintro σ H2 ⟨y8, os, rfl, k2, hos, st⟩
    rw [vn_len] at st
    have s2 := low k2
    have all : ∀ {s : Sce}, c.there s = true → s.bit os bits = s.told c.rows held bits (lvl c.rows held bits order.length) := fun {s} t => st.told mem t fun u hu => by
      rw [List.take_length]
      exact (mem u).mpr (List.mem_filter.mpr ⟨List.mem_range.mpr (useOf_lt hu), useOf_free hu⟩)
    -- after
    refine ⟨_, rfl, rw, rfl, ⟨_, SqL.of (s2 _ _ hR)⟩, fun D nD => lc_list (xs := us) (fun i Hz => Same H2 Hz ∧ Hz D = some (.lst (vn ((afterOf c held bits (order.length + 1)).take i)))) ⟨same_new nD, upd_same⟩ (fun i Hz _ h => SqL.of (h.1 _ _ (s2 _ _ hR))) ?_ ?_⟩
    · rintro i v Hz hv ⟨sz, hD⟩
      obtain ⟨e, he, de⟩ := ((hus.same s2).same sz).at hv
      have em := List.mem_of_getElem? he
      have il := (List.getElem?_eq_some_iff.mp he).1
      obtain ⟨a1, sl, ws1, rfl, ha1, _⟩ := cell_inv de
      have few := ok.few e em
      have hA : (afterOf c held bits (order.length + 1))[i]? = some (if e.kept = 1 then lvl c.rows held bits (order.length + 1) i else 0) := by
        unfold afterOf
        rw [List.getElem?_map, List.getElem?_range il]
        show some (if (c.rows[i]?.map Cell.kept) = some 1 then _ else 0) = _
        rw [he]
        by_cases k : e.kept = 1
        · rw [if_pos k, if_pos (show Option.map Cell.kept (some e) = some 1 from congrArg some k)]
        · have nk : ¬ (Option.map Cell.kept (some e) = some 1) := fun z => k (Option.some.inj z)
          rw [if_neg k, if_neg nk]
      have lenA : ((afterOf c held bits (order.length + 1)).take i).length ≤ 1000 := by
        rw [List.length_take]
        omega
      refine ⟨rfl, _, rfl, a1, _, 3, _, rfl, rfl, SqT.of ha1, atI_nat (j := 3) rfl, rfl, _, rfl, ?_⟩
      rw [show decide (V.int e.kept = V.int 1) = decide (e.kept = 1) from decide_eq_decide.mpr ⟨fun h => V.int.inj h, fun h => by rw [h]⟩]
      by_cases k : e.kept = 1
      · rw [decide_eq_true k]
        rw [if_pos k] at hA
        refine iteT ⟨_, rfl, _, rfl, _, rfl, .ref a1, ob, b, e, os, bits, rfl, de, sz _ _ hos, sz _ _ (s2 _ _ hb), (fun s hs => there_fit (ok.thr e em s hs) st.l bl), by omega, ok.t0 e em, st.b, b2, fun Hy sy => ⟨_, sy _ _ hD, ?_, same_mut (sz.trans sy) nD, ?_⟩⟩
        · rw [vn_len]
          exact small1000 lenA
        · rw [upd_same, take_snoc hA, st.bit mem he (ok.thr e em) (fun u hu => ?_), vn_snoc]
          rw [List.take_length]
          obtain ⟨s, _, es⟩ := List.mem_filterMap.mp hu
          exact (mem u).mpr (List.mem_filter.mpr ⟨List.mem_range.mpr (useOf_lt es), useOf_free es⟩)
      · rw [decide_eq_false k]
        rw [if_neg k] at hA
        refine iteF ⟨_, hD, ?_, same_mut sz nD, ?_⟩
        · rw [vn_len]
          exact small1000 lenA
        · rw [upd_same, take_snoc hA]
          exact congrArg (fun z => some (HO.lst z)) (vn_snoc _ 0)
    rintro H3 ⟨s3, hD⟩
    rw [hus.len, show c.rows.length = (afterOf c held bits (order.length + 1)).length by unfold afterOf; rw [List.length_map, List.length_range], List.take_length] at hD
    -- outs
    have s23 := s2.trans s3
    refine ⟨_, rfl, oo, rfl, ⟨_, SqL.of (s23 _ _ hW)⟩, fun D2 nD2 => lc_list (xs := ws) (fun i Hz => Same H3 Hz ∧ Hz D2 = some (.lst (vn ((c.outs.map (Sce.told c.rows held bits (lvl c.rows held bits order.length))).take i)))) ⟨same_new nD2, upd_same⟩ (fun i Hz _ h => SqL.of (h.1 _ _ (s23 _ _ hW))) ?_ ?_⟩
    · rintro i v Hz hv ⟨sz, hD2⟩
      obtain ⟨s, hs, ds⟩ := ((hws.same s23).same sz).at hv
      have sm := List.mem_of_getElem? hs
      have il := (List.getElem?_eq_some_iff.mp hs).1
      have ol := ok.ol
      have hA : (c.outs.map (Sce.told c.rows held bits (lvl c.rows held bits order.length)))[i]? = some (s.bit os bits) := by
        rw [List.getElem?_map, hs, all (ok.ot s sm)]
        rfl
      refine ⟨rfl, _, rfl, _, rfl, _, rfl, v, ob, b, s, os, bits, rfl, ds, sz _ _ (s3 _ _ hos), sz _ _ (s23 _ _ hb), there_fit (ok.ot s sm) st.l bl, _, hD2, ?_, same_mut sz nD2, ?_⟩
      · rw [vn_len, List.length_take]
        exact small1000 (by omega)
      · rw [upd_same, take_snoc hA, vn_snoc]
    rintro H4 ⟨s4, hD2⟩
    rw [hws.len, ← List.length_map (f := Sce.told c.rows held bits (lvl c.rows held bits order.length)), List.take_length] at hD2
    refine ⟨_, rfl, by show 2 ≤ sizeLine; decide, fun z nz => ?_⟩
    have sz := same_new (o := .tup [.ref D2, .ref D]) nz
    exact q _ z D2 D (s23.trans (s4.trans sz)) (none_of s23 nD2) (none_of s2 nD) upd_same (sz _ _ hD2) (sz _ _ (s4 _ _ hD))

end K48
namespace K48
open PySem PySem.Spec PyProof.Rows L2 V0
/-! ### steps and runs of cells -/
def outsOf (c : Cells) (held bits : List Nat) : List Nat := c.outs.map (Sce.told c.rows held bits (lvl c.rows held bits (c.rows.length + 1)))
def aftOf (c : Cells) (held bits : List Nat) : List Nat := afterOf c held bits (c.rows.length + 1)
theorem aft_len (c : Cells) (held bits : List Nat) : (aftOf c held bits).length = c.rows.length := by
  unfold aftOf afterOf
  rw [List.length_map, List.length_range]
theorem aft_lt (c : Cells) (held bits : List Nat) : ∀ x ∈ aftOf c held bits, x < 2 := fun x hx => by
  obtain ⟨j, _, rfl⟩ := List.mem_map.mp hx
  split
  · exact lvl_lt _ _
  · exact Nat.zero_lt_two
theorem order_len {rows : List Cell} {order : List Nat} (nd : order.Nodup) (mem : ∀ y, y ∈ order ↔ y ∈ freeOf rows) : order.length ≤ rows.length := by
  have := gnd_le (ys := List.range rows.length) nd fun y hy => (List.mem_filter.mp ((mem y).mp hy)).1
  rw [List.length_range] at this
  exact this
theorem free_lt {rows : List Cell} {j : Nat} (h : isFree rows j = true) : j < rows.length := by
  have h := of_decide_eq_true h
  cases g : rows[j]? with
  | none =>
    rw [g] at h
    exact absurd h (by simp)
  | some x => exact (List.getElem?_eq_some_iff.mp g).1
theorem told_fix {c : Cells} {order held bits : List Nat} (ok : COk c) (tp : Topo (usesOf c.rows) order) (mem : ∀ y, y ∈ order ↔ y ∈ freeOf c.rows) {M : Nat} (hM : order.length < M) (s : Sce) : s.told c.rows held bits (lvl c.rows held bits order.length) = s.told c.rows held bits (lvl c.rows held bits M) := by
  cases s with
  | no => rfl
  | pad i => rfl
  | cel i =>
    show (if isFree c.rows i.toNat = true then lvl c.rows held bits order.length i.toNat else held[i.toNat]?.getD 0) = (if isFree c.rows i.toNat = true then lvl c.rows held bits M i.toNat else held[i.toNat]?.getD 0)
    by_cases k : isFree c.rows i.toNat = true
    · rw [if_pos k, if_pos k]
      obtain ⟨p, hp⟩ := List.getElem?_of_mem ((mem i.toNat).mpr (List.mem_filter.mpr ⟨List.mem_range.mpr (free_lt k), k⟩))
      have := (List.getElem?_eq_some_iff.mp hp).1
      rw [lvl_fix ok.inr tp p _ hp M (by omega)]
    · rw [if_neg k, if_neg k]
theorem outs_fix {c : Cells} {order held bits : List Nat} (ok : COk c) (tp : Topo (usesOf c.rows) order) (nd : order.Nodup) (mem : ∀ y, y ∈ order ↔ y ∈ freeOf c.rows) : c.outs.map (Sce.told c.rows held bits (lvl c.rows held bits order.length)) = outsOf c held bits :=
  List.map_congr_left fun s _ => told_fix ok tp mem (by have := order_len nd mem; omega) s
theorem aft_fix {c : Cells} {order held bits : List Nat} (ok : COk c) (tp : Topo (usesOf c.rows) order) (nd : order.Nodup) (mem : ∀ y, y ∈ order ↔ y ∈ freeOf c.rows) : afterOf c held bits (order.length + 1) = aftOf c held bits := by
  refine List.map_congr_left fun j _ => ?_
  have := order_len nd mem
  rw [lvl_next (M := c.rows.length + 1) ok.inr tp mem (by omega)]
def sp_step_cells (K : PySem.W.Frag) : Sp := fun vs H Q _ => ∃ (v : V) (h b : Addr) (c : Cells) (held bits : List Nat), vs = [v, .ref h, .ref b] ∧ Dv H v c ∧ COk c ∧ H h = some (.lst (vn held)) ∧ H b = some (.lst (vn bits)) ∧ (∀ y, ¬ OnC (usesOf c.rows) y) ∧
  held.length = c.rows.length ∧ bits.length = c.ins ∧ (∀ x ∈ held, x < 2) ∧ (∀ x ∈ bits, x < 2) ∧
  ∀ H' z t1 t2, Same H H' → H t1 = none → H t2 = none → H' z = some (.tup [.ref t1, .ref t2]) → H' t1 = some (.lst (vn (outsOf c held bits))) → H' t2 = some (.lst (vn (aftOf c held bits))) → Q (.ref z) H'
theorem ok_step_cells {P : Program} {w : World} {K : PySem.W.Frag} {mg : Str → Option Value} {base : Heap} {C_KindError fI_KindError : Addr} {fd_KindError : FuncData} {C_LoopError fI_LoopError : Addr} {fd_LoopError : FuncData} {B_ : Addr} {mc_ : Value} {tk_MOST_SOURCES : Tok} {f f_stepped f_order : Addr} {fd fd_stepped fd_order : FuncData} (F : Fun K "step_cells" "step_cells" s_step_cells f fd) (T : Txt K mg C_KindError fI_KindError fd_KindError C_LoopError fI_LoopError fd_LoopError B_ mc_ tk_MOST_SOURCES)
    (G__stepped : FnOk P w K mg base CX0 3 f_stepped fd_stepped ["cells", "order", "state", "bits"] (sp__stepped K)) (D__stepped : Def K mg "_stepped" f_stepped fd_stepped ["cells", "order", "state", "bits"])
    (G__order : FnOk P w K mg base CX0 3 f_order fd_order ["cells"] (sp__order K)) (D__order : Def K mg "_order" f_order fd_order ["cells"]) :
    FnOk P w K mg base CX0 4 f fd ["cells", "state", "bits"] (sp_step_cells K) := by
  refine F.ok scstep_cells (fun vs H Q E h => ?_) (fun cdv A outer s H vs Q E hr h => ?_)
  · obtain ⟨v, h, b, c, held, bits, rfl, _⟩ := h
    rfl
  · obtain ⟨v, h, b, c, held, bits, rfl, hv, ok, hh, hb, no, hl, bl, h2, b2, q⟩ := h
    refine ⟨_, (pss_one (ps_ret (pe_call G__stepped (hr.mono (by omega)) (by rfl) D__stepped.m D__stepped.k D__stepped.b .nil pass0 (pa_cons (pv 0) (pa_cons (pe_call G__order (hr.mono (by omega)) (by rfl) D__order.m D__order.k D__order.b .nil pass0 (pa_cons (pv 0) pa_nil)) (pa_cons (pv 1) (pa_cons (pv 2) pa_nil))))))), ?_⟩
    refine ⟨_, rfl, _, rfl, v, c, rfl, hv, ok.inr, (fun e he => by have := ok.few e he; omega), ok.many, fun H1 l order s1 nl el fin mem len => ?_⟩
    have tp := fin.kos.topo fun y _ => no y
    refine ⟨_, rfl, _, rfl, v, l, h, b, c, order, held, bits, rfl, hv.same s1, ok, el, s1 _ _ hh, s1 _ _ hb, tp, mem, hl, bl, h2, b2, fun H2 z t1 t2 s2 n1 n2 hz e1 e2 => ?_⟩
    rw [outs_fix ok tp fin.nod mem] at e1
    rw [aft_fix ok tp fin.nod mem] at e2
    exact q H2 z t1 t2 (s1.trans s2) (none_of s1 n1) (none_of s1 n2) hz e1 e2
def startOf (c : Cells) : List Nat := c.rows.map fun e => e.start.toNat
def runOf (c : Cells) : List Nat → List (List Nat) → List (List Nat)
  | _, [] => []
  | held, b :: r => outsOf c held b :: runOf c (aftOf c held b) r
def heldOf (c : Cells) : List Nat → List (List Nat) → List Nat
  | held, [] => held
  | held, b :: r => heldOf c (aftOf c held b) r
theorem run_snoc (c : Cells) (b : List Nat) : ∀ (r : List (List Nat)) (held : List Nat), runOf c held (r ++ [b]) = runOf c held r ++ [outsOf c (heldOf c held r) b]
  | [], _ => rfl
  | x :: r, held => congrArg (outsOf c held x :: ·) (run_snoc c b r (aftOf c held x))
theorem held_snoc (c : Cells) (b : List Nat) : ∀ (r : List (List Nat)) (held : List Nat), heldOf c held (r ++ [b]) = aftOf c (heldOf c held r) b
  | [], _ => rfl
  | x :: r, held => held_snoc c b r (aftOf c held x)
theorem run_len (c : Cells) : ∀ (r : List (List Nat)) (held : List Nat), (runOf c held r).length = r.length
  | [], _ => rfl
  | x :: r, held => congrArg (· + 1) (run_len c r (aftOf c held x))
theorem held_ok (c : Cells) : ∀ (r : List (List Nat)) (held : List Nat), held.length = c.rows.length → (∀ x ∈ held, x < 2) → (heldOf c held r).length = c.rows.length ∧ ∀ x ∈ heldOf c held r, x < 2
  | [], _, h1, h2 => ⟨h1, h2⟩
  | b :: r, held, _, _ => held_ok c r _ (aft_len c held b) (aft_lt c held b)
theorem start_ok {c : Cells} (ok : COk c) : (startOf c).length = c.rows.length ∧ ∀ x ∈ startOf c, x < 2 := by
  refine ⟨by unfold startOf; rw [List.length_map], fun x hx => ?_⟩
  obtain ⟨e, he, rfl⟩ := List.mem_map.mp hx
  rcases ok.st e he with h | h <;> rw [h] <;> decide

end K48
namespace K48
open PySem PySem.Spec PyProof.Rows L2 V0
def sp_run_cells (K : PySem.W.Frag) : Sp := fun vs H Q _ => ∃ (v : V) (r : Addr) (c : Cells) (us : List V) (bs : List (List Nat)), vs = [v, .ref r] ∧ Dv H v c ∧ COk c ∧ H r = some (.lst us) ∧ Dvs H us bs ∧ (∀ y, ¬ OnC (usesOf c.rows) y) ∧ bs.length ≤ 1000 ∧ (∀ b ∈ bs, b.length = c.ins ∧ ∀ x ∈ b, x < 2) ∧
  ∀ H' t, Same H H' → Dv H' (.ref t) (runOf c (startOf c) bs) → Q (.ref t) H'
theorem ok_run_cells {P : Program} {w : World} {K : PySem.W.Frag} {mg : Str → Option Value} {base : Heap} {C_KindError fI_KindError : Addr} {fd_KindError : FuncData} {C_LoopError fI_LoopError : Addr} {fd_LoopError : FuncData} {B_ : Addr} {mc_ : Value} {tk_MOST_SOURCES : Tok} {f f_order f_stepped : Addr} {fd fd_order fd_stepped : FuncData} (F : Fun K "run_cells" "run_cells" s_run_cells f fd) (T : Txt K mg C_KindError fI_KindError fd_KindError C_LoopError fI_LoopError fd_LoopError B_ mc_ tk_MOST_SOURCES)
    (G__order : FnOk P w K mg base CX0 3 f_order fd_order ["cells"] (sp__order K)) (D__order : Def K mg "_order" f_order fd_order ["cells"])
    (G__stepped : FnOk P w K mg base CX0 3 f_stepped fd_stepped ["cells", "order", "state", "bits"] (sp__stepped K)) (D__stepped : Def K mg "_stepped" f_stepped fd_stepped ["cells", "order", "state", "bits"]) :
    FnOk P w K mg base CX0 4 f fd ["cells", "rows"] (sp_run_cells K) := by
  refine F.ok scrun_cells (fun vs H Q E h => ?_) (fun cdv A outer s H vs Q E hr h => ?_)
  · obtain ⟨v, r, c, us, bs, rfl, _⟩ := h
    rfl
  · obtain ⟨v, r, c, us, bs, rfl, hv, ok, hR, hus, no, bl, bok, q⟩ := h
    have hv0 := hv
    obtain ⟨a, rw, oo, cu, ws, rfl, ha, hC, hcu, hW, hws⟩ := cells_inv hv
    have many := ok.many
    refine ⟨_, (pss_cons (ps_set (i := 2) scrun_cells.nd rfl (.inl rfl) (pe_call G__order (hr.mono (by omega)) (by rfl) D__order.m D__order.k D__order.b .nil pass0 (pa_cons (pv 0) pa_nil)))
      (pss_cons (ps_setLc (i := 3) (own := [("_", 7), ("start", 8)]) (g := gTup K 5 (gCons (gName 7) (gCons (gName 7) (gCons (gName 7) (gCons (gName 7) (gCons (gName 8) (gNil))))))) (tt := tYes) rfl scrun_cells.nd rfl rfl (sw_true rfl rfl rfl (by decide +kernel)) (pi_list (pe_ix (r := rIxT K) ix_tup (pv 0) pe_int (fun _ _ => rfl))) (blkOk_by (N := N_run_cells) (sc := defScope s_run_cells) (by decide +kernel)) (fun _ _ _ _ _ => (pg_tup (by rfl) (pgs_cons (pg_name (i := 7) scrun_cells.nd rfl (Or.inl rfl)) (pgs_cons (pg_name (i := 7) scrun_cells.nd rfl (Or.inl rfl)) (pgs_cons (pg_name (i := 7) scrun_cells.nd rfl (Or.inl rfl)) (pgs_cons (pg_name (i := 7) scrun_cells.nd rfl (Or.inl rfl)) (pgs_cons (pg_name (i := 8) scrun_cells.nd rfl (Or.inl rfl)) pgs_nil))))))) (fun _ _ _ _ _ => pts_nil) (fun _ _ _ _ _ => (pv 8)))
      (pss_cons (ps_set (i := 4) scrun_cells.nd rfl (.inl rfl) (pe_lst pa_nil))
      (pss_cons (ps_for PassesOwn.never rfl (pi_list (pv 1)) (pg_name (i := 5) scrun_cells.nd rfl (Or.inl rfl)) (pss_cons (ps_asg (pe_call G__stepped (hr.mono (by omega)) (by rfl) D__stepped.m D__stepped.k D__stepped.b .nil pass0 (pa_cons (pv 0) (pa_cons (pv 2) (pa_cons (pv 3) (pa_cons (pv 5) pa_nil))))) (pg_tup (by rfl) (pgs_cons (pg_name (i := 6) scrun_cells.nd rfl (Or.inl rfl)) (pgs_cons (pg_name (i := 3) scrun_cells.nd rfl (Or.inl rfl)) pgs_nil))))
      (pss_one (ps_expr (pe_bm PySem.F.plainAttrs_list PySem.F.slot_list_append PySem.F.type_list_append mt_append (pv 4) (pa_cons (pv 6) pa_nil))))))
      (pss_one (ps_ret (pv 4))))))), ?_⟩
    refine ⟨_, rfl, _, c, rfl, hv0, ok.inr, (fun e he => by have := ok.few e he; omega), ok.many, fun H1 l order s1 nl el fin mem len => ?_⟩
    have tp := fin.kos.topo fun y _ => no y
    -- starts
    refine ⟨_, rfl, a, _, 2, _, rfl, rfl, SqT.of (s1 _ _ ha), atI_nat (j := 2) rfl, rw, rfl, ⟨_, SqL.of (s1 _ _ hC)⟩, fun D nD => lc_list (xs := cu) (fun i Hz => Same H1 Hz ∧ Hz D = some (.lst (vn ((startOf c).take i)))) ⟨same_new nD, upd_same⟩ (fun i Hz _ h => SqL.of (h.1 _ _ (s1 _ _ hC))) ?_ ?_⟩
    · rintro i v Hz hv ⟨sz, hD⟩
      obtain ⟨e, he, de⟩ := ((hcu.same s1).same sz).at hv
      have il := (List.getElem?_eq_some_iff.mp he).1
      obtain ⟨a1, sl, ws1, rfl, ha1, _⟩ := cell_inv de
      have hA : (startOf c)[i]? = some e.start.toNat := by
        unfold startOf
        rw [List.getElem?_map, he]
        rfl
      have st := ok.st e (List.mem_of_getElem? he)
      refine ⟨a1, _, rfl, SqT.of ha1, rfl, _, _, rfl, _, _, rfl, _, _, rfl, _, _, rfl, _, _, rfl, rfl, rfl, _, rfl, _, hD, ?_, same_mut sz nD, ?_⟩
      · rw [vn_len, List.length_take]
        exact small1000 (by omega)
      · rw [upd_same, take_snoc hA, ← vn_snoc, Int.toNat_of_nonneg (by omega)]
    rintro H2 ⟨s2, hD⟩
    rw [hcu.len, show c.rows.length = (startOf c).length by unfold startOf; rw [List.length_map], List.take_length] at hD
    refine ⟨by show 0 ≤ sizeLine; decide, fun T nT => ?_⟩
    have s12 := s1.trans s2
    have nT0 : H T = none := none_of s12 nT
    have s3 := same_new (o := .lst []) nT
    have eT : (upd H2 T (.lst [])) T = some (.lst []) := upd_same
    have hl3 := s3 _ _ (s2 _ _ el)
    have hD3 := s3 _ _ hD
    have DT : D ≠ T := ne_of_none hD nT
    have lT : l ≠ T := ne_of_none (s2 _ _ el) nT
    have s13 := s12.trans s3
    generalize (upd H2 T (.lst [])) = H3 at s3 eT hl3 hD3 s13 ⊢
    have low : ∀ {Hx : Hp}, Same (hid T H3) (hid T Hx) → Same H (hid T Hx) := fun k b o z => k _ _ (hid_of (ne_of_none z nT0) (s13 _ _ z))
    refine ⟨_, rfl, r, rfl, ⟨_, SqL.of (s13 _ _ hR)⟩, for_list (xs := us) (fun i σ Hx => ∃ (y5 y6 : Option V) (st : Addr) (kv : List V), σ = [some (.ref a), some (.ref r), some (.ref l), some (.ref st), some (.ref T), y5, y6, none, none] ∧ Same (hid T H3) (hid T Hx) ∧ Hx T = some (.lst kv) ∧ Dvs (hid T Hx) kv (runOf c (startOf c) (bs.take i)) ∧ (hid T Hx) st = some (.lst (vn (heldOf c (startOf c) (bs.take i))))) ⟨none, none, D, [], rfl, Same.refl _, eT, .nil, hid_of DT hD3⟩ (fun i σ Hx _ ⟨_, _, _, _, _, k, _⟩ => SqL.of (hid_some (low k _ _ hR)).2) ?_ ?_⟩
    · rintro i v σ Hx hv ⟨y5, y6, st, kv, rfl, k, hT, hkv, hst⟩
      obtain ⟨b, hb, db⟩ := (hus.same (low k)).at hv
      obtain ⟨bA, rfl, hbA⟩ := db.natl_inv
      have sx : Same H Hx := (low k).trans (hid_same _ _)
      have hbA := (hid_some hbA).2
      obtain ⟨bl1, bl2⟩ := bok b (List.mem_of_getElem? hb)
      have il := (List.getElem?_eq_some_iff.mp hb).1
      obtain ⟨st1, st2⟩ := start_ok ok
      obtain ⟨h1, h2⟩ := held_ok c (bs.take i) (startOf c) st1 st2
      refine ⟨_, rfl, _, rfl, _, rfl, _, rfl, .ref a, l, st, bA, c, order, heldOf c (startOf c) (bs.take i), b, rfl, hv0.same sx, ok, (hid_some (k _ _ (hid_of lT hl3))).2, (hid_some hst).2, hbA, tp, mem, h1, bl1, h2, bl2, fun Hy z t1 t2 sy n1 n2 hz e1 e2 => ?_⟩
      rw [outs_fix ok tp fin.nod mem] at e1
      rw [aft_fix ok tp fin.nod mem] at e2
      have hTy := sy _ _ hT
      have t1T : t1 ≠ T := (ne_of_none hT n1).symm
      have t2T : t2 ≠ T := (ne_of_none hT n2).symm
      refine ⟨z, _, rfl, SqT.of hz, rfl, _, _, rfl, _, _, rfl, rfl, ?_⟩
      refine ⟨_, rfl, .inl ⟨rfl, _, SqL.of hTy⟩, _, rfl, T, _, _, rfl, rfl, hTy, ?_, ?_⟩
      · have := hkv.len
        rw [run_len, List.length_take] at this
        exact small1000 (by omega)
      have ky : Same (hid T Hx) (hid T (upd Hy T (.lst (kv ++ [.ref t1])))) := (hid_mono sy).trans hid_mut
      refine ⟨_, _, t2, kv ++ [.ref t1], rfl, k.trans ky, upd_same, ?_, ?_⟩
      · rw [take_snoc hb, run_snoc]
        exact (hkv.same ky).app (.cons (.natl (hid_of t1T (by rw [upd_ne t1T]; exact e1))) .nil)
      · rw [take_snoc hb, held_snoc]
        exact hid_of t2T (by rw [upd_ne t2T]; exact e2)
    · rintro σ Hx ⟨y5, y6, st, kv, rfl, k, hT, hkv, hst⟩
      rw [hus.len, List.take_length] at hkv
      refine ⟨_, rfl, q Hx T ((low k).trans (hid_same _ _)) (.list hT (hkv.same (hid_same _ _)))⟩

end K48
namespace K48
open PySem PySem.Spec PyProof.Rows L2 V0
/-! ### a cell is as it has to be -/
def Cells.right (c : Cells) (e : Cell) : Prop := e.src.length ≤ 4 ∧ (∀ s ∈ e.src, c.there s = true) ∧ (0 ≤ e.table ∧ e.table < ((2 ^ 2 ^ e.src.length : Nat) : Int)) ∧ (e.kept = 0 ∨ e.kept = 1) ∧ (e.start = 0 ∨ e.start = 1) ∧ (e.kept = 1 ∨ e.start = 0)
theorem in01 (x : Int) : inV (.int x) [.int 0, .int 1] = decide (x = 0 ∨ x = 1) := by
  show ((0 : Int) == x || ((1 : Int) == x || false)) = _
  rw [Bool.eq_iff_iff]
  simp
  constructor
  · rintro (h | h)
    · exact .inl h.symm
    · exact .inr h.symm
  · rintro (h | h)
    · exact .inl h.symm
    · exact .inr h.symm
theorem deci {x y : Int} : decide (V.int x = V.int y) = decide (x = y) := decide_eq_decide.mpr ⟨fun h => V.int.inj h, fun h => by rw [h]⟩
def sp__cell_right (K : PySem.W.Frag) : Sp := fun vs H Q _ => ∃ (v w : V) (c : Cells) (e : Cell), vs = [v, w] ∧ Dv H v c ∧ Dv H w e ∧ e.src.length ≤ 60 ∧ ∀ H' (k : Bool), Same H H' → (k = true ↔ c.right e) → Q (.bl k) H'
theorem ok__cell_right {P : Program} {w : World} {K : PySem.W.Frag} {mg : Str → Option Value} {base : Heap} {C_KindError fI_KindError : Addr} {fd_KindError : FuncData} {C_LoopError fI_LoopError : Addr} {fd_LoopError : FuncData} {B_ : Addr} {mc_ : Value} {tk_MOST_SOURCES : Tok} {f f_is_there : Addr} {fd fd_is_there : FuncData} (F : Fun K "_cell_right" "_cell_right" s__cell_right f fd) (T : Txt K mg C_KindError fI_KindError fd_KindError C_LoopError fI_LoopError fd_LoopError B_ mc_ tk_MOST_SOURCES)
    (G__is_there : FnOk P w K mg base CX0 1 f_is_there fd_is_there ["cells", "source"] (sp__is_there K)) (D__is_there : Def K mg "_is_there" f_is_there fd_is_there ["cells", "source"]) :
    FnOk P w K mg base CX0 2 f fd ["cells", "cell"] (sp__cell_right K) := by
  refine F.ok sc_cell_right (fun vs H Q E h => ?_) (fun cdv A outer s H vs Q E hr h => ?_)
  · obtain ⟨v, w, c, e, rfl, _⟩ := h
    rfl
  · obtain ⟨v, w, c, e, rfl, hv, hw, l60, q⟩ := h
    obtain ⟨a1, sl, us, rfl, ha1, hsl, hus⟩ := cell_inv hw
    refine ⟨_, (pss_cons (ps_asg (pv 1) (pg_tup (by rfl) (pgs_cons (pg_name (i := 2) sc_cell_right.nd rfl (Or.inl rfl)) (pgs_cons (pg_name (i := 3) sc_cell_right.nd rfl (Or.inl rfl)) (pgs_cons (pg_name (i := 4) sc_cell_right.nd rfl (Or.inl rfl)) (pgs_cons (pg_name (i := 5) sc_cell_right.nd rfl (Or.inl rfl)) (pgs_cons (pg_name (i := 6) sc_cell_right.nd rfl (Or.inl rfl)) pgs_nil)))))))
      (pss_cons (ps_if (PW.pt (pw_or (pt_cmpR op_gt (pe_callB call_len_seq (by rfl) T.m_len (by decide +kernel) (pa_cons (pv 3) pa_nil)) (pe_glob (v := V.int _) rfl T.m_MOST_SOURCES ⟨_, rfl⟩) (nomark _)) (pw_or1 (pt_val (pe_callB (cr_any (by rfl)) (by rfl) T.m_any (by decide +kernel) (pa_cons (pe_lc (own := [("source", 7)]) (g := gName 7) (tt := tYes) rfl sc_cell_right.nd (pi_list (pv 3)) (blkOk_by (N := N__cell_right) (sc := defScope s__cell_right) (by decide +kernel)) (fun _ _ _ _ _ => (pg_name (i := 7) sc_cell_right.nd rfl (Or.inl rfl))) (fun _ _ _ _ _ => pts_nil) (fun _ _ _ _ _ => (pe_not (pe_call G__is_there (hr.mono (by omega)) (by rfl) D__is_there.m D__is_there.k D__is_there.b .nil pass0 (pa_cons (pv 0) (pa_cons (pv 7) pa_nil)))))) pa_nil)))))) (pss_one (ps_ret pe_bl)) pss_nil)
      (pss_cons (ps_if (pt_not (pt_chain op_le op_lt pe_int (pv 4) (pe_op op_shl pe_int (pe_op op_shl pe_int (pe_callB call_len_seq (by rfl) T.m_len (by decide +kernel) (pa_cons (pv 3) pa_nil)))))) (pss_one (ps_ret pe_bl)) pss_nil)
      (pss_one (ps_ret (pe_and (pe_cmpR (r := rIn K false) op_in_seq (pv 5) (pe_tup (pa_cons pe_int (pa_cons pe_int pa_nil))) (by rfl)) (pe_and (pe_cmpR (r := rIn K false) op_in_seq (pv 6) (pe_tup (pa_cons pe_int (pa_cons pe_int pa_nil))) (by rfl)) (pe_one (pe_or (pe_cmpR op_eq (pv 5) pe_int (nomark _)) (pe_one (pe_cmpR op_eq (pv 6) pe_int (nomark _)))))))))))), ?_⟩
    refine ⟨_, rfl, a1, _, rfl, SqT.of ha1, rfl, _, _, rfl, _, _, rfl, _, _, rfl, _, _, rfl, _, _, rfl, rfl, ?_⟩
    refine ⟨_, rfl, sl, _, rfl, .inl (SqL.of hsl), _, _, rfl, rfl, _, rfl, ?_⟩
    rw [show decide ((4 : Int) < ((us.length : Nat) : Int)) = decide (4 < e.src.length) from decide_eq_decide.mpr (by rw [hus.len]; omega)]
    by_cases c1 : 4 < e.src.length
    · rw [decide_eq_true c1]
      exact iteT (iteT (q H false (Same.refl _) ⟨fun z => (by cases z), fun z => (by have := z.1; omega)⟩))
    rw [decide_eq_false c1]
    refine iteF ⟨_, rfl, sl, rfl, ⟨_, SqL.of hsl⟩, fun D nD => lc_list (xs := us) (fun i Hz => Same H Hz ∧ Hz D = some (.lst (((e.src.map fun s => !c.there s).take i).map V.bl))) ⟨same_new nD, upd_same⟩ (fun i Hz _ h => SqL.of (h.1 _ _ hsl)) ?_ ?_⟩
    · rintro i u Hz hu ⟨sz, hD⟩
      obtain ⟨s, hs, ds⟩ := (hus.same sz).at hu
      have hA : (e.src.map fun s => !c.there s)[i]? = some (!c.there s) := by rw [List.getElem?_map, hs]; rfl
      have il := (List.getElem?_eq_some_iff.mp hs).1
      refine ⟨rfl, _, rfl, _, rfl, v, u, c, s, rfl, hv.same sz, ds, _, rfl, _, hD, ?_, same_mut sz nD, ?_⟩
      · rw [List.length_map, List.length_take]
        exact small1000 (by omega)
      · rw [upd_same, take_snoc hA, List.map_append]
        rfl
    rintro H1 ⟨s1, hD⟩
    rw [hus.len, ← List.length_map (f := fun s => !c.there s), List.take_length] at hD
    refine ⟨D, _, rfl, SqL.of hD, _, rfl, ?_⟩
    by_cases c2 : ∀ s ∈ e.src, c.there s = true
    · rw [show ((e.src.map fun s => !c.there s).any id) = false from by
        rw [List.any_eq_false]
        intro b hb
        obtain ⟨s, hs, rfl⟩ := List.mem_map.mp hb
        rw [c2 s hs]
        exact Bool.false_ne_true]
      refine iteF ?_
      have e2 : (1 : Int) * 2 ^ ((1 : Int) * 2 ^ ((us.length : Nat) : Int).toNat).toNat = ((2 ^ 2 ^ e.src.length : Nat) : Int) := by
        rw [hus.len, shl_one, shl_one]
      have e1 : (1 : Int) * 2 ^ ((us.length : Nat) : Int).toNat = ((2 ^ e.src.length : Nat) : Int) := by
        rw [hus.len, shl_one]
      have p16 := Nat.pow_le_pow_right (n := 2) (by decide) (show e.src.length ≤ 4 by omega)
      have p16 : 2 ^ e.src.length ≤ 16 := p16
      refine ⟨_, rfl, _, _, rfl, rfl, _, rfl, ?_⟩
      by_cases c3 : (0 : Int) ≤ e.table
      rotate_left
      · rw [decide_eq_false c3]
        exact iteF ⟨_, rfl, iteT (q H1 false s1 ⟨fun z => (by cases z), fun z => absurd z.2.2.1.1 c3⟩)⟩
      rw [decide_eq_true c3]
      refine iteT ⟨_, rfl, sl, _, rfl, .inl (SqL.of (s1 _ _ hsl)), _, _, rfl, rfl, ⟨Int.natCast_nonneg _, by rw [hus.len]; omega, by decide⟩, _, _, rfl, rfl, ⟨by rw [e1]; exact Int.natCast_nonneg _, by rw [e1]; omega, by decide⟩, _, _, rfl, rfl, _, rfl, ?_⟩
      rw [e2]
      by_cases c4 : e.table < ((2 ^ 2 ^ e.src.length : Nat) : Int)
      rotate_left
      · rw [decide_eq_false c4]
        exact iteT (q H1 false s1 ⟨fun z => (by cases z), fun z => absurd z.2.2.1.2 c4⟩)
      rw [decide_eq_true c4]
      refine iteF ⟨_, rfl, by show 2 ≤ sizeLine; decide, fun t1 n1 => ⟨t1, _, rfl, .inr (SqT.of upd_same), rfl, rfl, _, rfl, ?_⟩⟩
      have sA := s1.trans (same_new (o := .tup [.int 0, .int 1]) n1)
      show if inV (.int e.kept) [.int 0, .int 1] = true then _ else _
      rw [in01]
      by_cases c5 : e.kept = 0 ∨ e.kept = 1
      rotate_left
      · rw [decide_eq_false c5]
        exact iteF (q _ false sA ⟨fun z => (by cases z), fun z => absurd z.2.2.2.1 c5⟩)
      rw [decide_eq_true c5]
      refine iteT ⟨_, rfl, by show 2 ≤ sizeLine; decide, fun t2 n2 => ⟨t2, _, rfl, .inr (SqT.of upd_same), rfl, rfl, _, rfl, ?_⟩⟩
      have sB := sA.trans (same_new (o := .tup [.int 0, .int 1]) n2)
      show if inV (.int e.start) [.int 0, .int 1] = true then _ else _
      rw [in01]
      by_cases c6 : e.start = 0 ∨ e.start = 1
      rotate_left
      · rw [decide_eq_false c6]
        exact iteF (q _ false sB ⟨fun z => (by cases z), fun z => absurd z.2.2.2.2.1 c6⟩)
      rw [decide_eq_true c6]
      refine iteT ⟨_, rfl, rfl, _, rfl, ?_⟩
      rw [deci]
      by_cases c7 : e.kept = 1
      · rw [decide_eq_true c7]
        exact iteT (q _ true sB ⟨fun _ => ⟨by omega, c2, ⟨c3, c4⟩, c5, c6, .inl c7⟩, fun _ => rfl⟩)
      · rw [decide_eq_false c7]
        refine iteF ⟨_, rfl, rfl, ?_⟩
        rw [deci]
        refine q _ _ sB ⟨fun z => ⟨by omega, c2, ⟨c3, c4⟩, c5, c6, .inr (of_decide_eq_true z)⟩, fun z => decide_eq_true (z.2.2.2.2.2.resolve_left c7)⟩
    · rw [show ((e.src.map fun s => !c.there s).any id) = true from by
        obtain ⟨s, hs, ns⟩ : ∃ s ∈ e.src, ¬ c.there s = true := Classical.byContradiction fun z => c2 fun s hs => Classical.byContradiction fun n => z ⟨s, hs, n⟩
        rw [List.any_eq_true]
        exact ⟨_, List.mem_map.mpr ⟨s, hs, rfl⟩, by simpa using ns⟩]
      exact iteT (q H1 false s1 ⟨fun z => (by cases z), fun z => absurd z.2.1 c2⟩)

end K48
namespace K48
open PySem PySem.Spec PyProof.Rows L2 V0
/-! ### drawn sources -/
def Sce.sml : Sce → Prop
  | .no => True
  | .pad i => i.natAbs ≤ 100
  | .cel i => i.natAbs ≤ 100
theorem sces_up {H : Hp} {r : Addr} {xs ys : List V} (hr : H r = some (.lst xs)) : ∀ {us : List V} {ss : List Sce}, Dvs H us ss → Dvs (upd H r (.lst ys)) us ss := by
  intro us ss
  induction ss generalizing us with
  | nil =>
    intro h
    have := h.nil_inv
    subst this
    exact .nil
  | cons s ss ih =>
    intro h
    obtain ⟨v, us', rfl, h1, h2⟩ := Dvs.cons_inv h
    obtain ⟨t, rfl, ht⟩ := sce_inv h1
    exact .cons (Dv.sce (by rw [upd_ne (ne_of ht hr (by intro z; cases z))]; exact ht)) (ih h2)
def sp__law_source (K : PySem.W.Frag) : Sp := fun vs H Q _ => ∃ (p c : Addr) (i m : Nat) (wild : Bool), vs = [.ref p, .int (i : Nat), .int (m : Nat), .bl wild] ∧ Dr H p c ∧ i ≤ 20 ∧ m ≤ 20 ∧
  ∀ H' t (s : Sce), Go p c H H' → t ≠ p → t ≠ c → H' t = some (.tup s.its) → s.sml → Q (.ref t) H'
theorem ok__law_source {P : Program} {w : World} {K : PySem.W.Frag} {mg : Str → Option Value} {base : Heap} {C_KindError fI_KindError : Addr} {fd_KindError : FuncData} {C_LoopError fI_LoopError : Addr} {fd_LoopError : FuncData} {B_ : Addr} {mc_ : Value} {tk_MOST_SOURCES : Tok} {f f_law_pick : Addr} {fd fd_law_pick : FuncData} (F : Fun K "_law_source" "_law_source" s__law_source f fd) (T : Txt K mg C_KindError fI_KindError fd_KindError C_LoopError fI_LoopError fd_LoopError B_ mc_ tk_MOST_SOURCES)
    (G__law_pick : FnOk P w K mg base CX0 2 f_law_pick fd_law_pick ["state", "row"] (sp__law_pick K)) (D__law_pick : Def K mg "_law_pick" f_law_pick fd_law_pick ["state", "row"]) :
    FnOk P w K mg base CX0 3 f fd ["state", "ins", "many", "wild"] (sp__law_source K) := by
  refine F.ok sc_law_source (fun vs H Q E h => ?_) (fun cdv A outer s H vs Q E hr h => ?_)
  · obtain ⟨p, c, i, m, wild, rfl, _⟩ := h
    rfl
  · obtain ⟨p, c, i, m, wild, rfl, d0, hi, hm, q⟩ := h
    refine ⟨_, (pss_cons (ps_set (i := 4) sc_law_source.nd rfl (.inl rfl) (pe_lst (pa_cons (pe_tup (pa_cons pe_str pa_nil)) pa_nil)))
      (pss_cons (ps_expr (pe_bm PySem.F.plainAttrs_list PySem.F.slot_list_extend PySem.F.type_list_extend mt_extend (pv 4) (pa_cons (pe_lc (own := [("k", 5)]) (g := gName 5) (tt := tYes) rfl sc_law_source.nd (pi_range1 rfl T.m_range (pa_cons (pv 1) pa_nil)) (blkOk_by (N := N__law_source) (sc := defScope s__law_source) (by decide +kernel)) (fun _ _ _ _ _ => (pg_name (i := 5) sc_law_source.nd rfl (Or.inl rfl))) (fun _ _ _ _ _ => pts_nil) (fun _ _ _ _ _ => (pe_tup (pa_cons pe_str (pa_cons (pv 5) pa_nil))))) pa_nil)))
      (pss_cons (ps_expr (pe_bm PySem.F.plainAttrs_list PySem.F.slot_list_extend PySem.F.type_list_extend mt_extend (pv 4) (pa_cons (pe_lc (own := [("k", 5)]) (g := gName 5) (tt := tYes) rfl sc_law_source.nd (pi_range1 rfl T.m_range (pa_cons (pv 2) pa_nil)) (blkOk_by (N := N__law_source) (sc := defScope s__law_source) (by decide +kernel)) (fun _ _ _ _ _ => (pg_name (i := 5) sc_law_source.nd rfl (Or.inl rfl))) (fun _ _ _ _ _ => pts_nil) (fun _ _ _ _ _ => (pe_tup (pa_cons pe_str (pa_cons (pv 5) pa_nil))))) pa_nil)))
      (C8.pss_cut (ps_if (pt_val (pv 3)) (pss_one (ps_expr (pe_bm PySem.F.plainAttrs_list PySem.F.slot_list_extend PySem.F.type_list_extend mt_extend (pv 4) (pa_cons (pe_lst (pa_cons (pe_tup (pa_cons pe_str (pa_cons (pe_un un_neg pe_int) pa_nil))) (pa_cons (pe_tup (pa_cons pe_str (pa_cons (pv 1) pa_nil))) (pa_cons (pe_tup (pa_cons pe_str (pa_cons (pe_un un_neg pe_int) pa_nil))) (pa_cons (pe_tup (pa_cons pe_str (pa_cons (pv 2) pa_nil))) pa_nil))))) pa_nil)))) pss_nil)
      (pss_one (ps_ret (pe_call G__law_pick (hr.mono (by omega)) (by rfl) D__law_pick.m D__law_pick.k D__law_pick.b .nil pass0 (pa_cons (pv 0) (pa_cons (pv 4) pa_nil))))))))), ?_⟩
    refine ⟨by show 1 ≤ sizeLine; decide, fun t1 n1 => ⟨by show 1 ≤ sizeLine; decide, fun r nr => ?_⟩⟩
    have nr0 : H r = none := none_of (same_new n1) nr
    have s1 := (same_new (o := .tup [.str "none"]) n1).trans (same_new (o := .lst [.ref t1]) nr)
    have hr1 : (upd (upd H t1 (.tup [.str "none"])) r (.lst [.ref t1])) r = some (.lst [.ref t1]) := upd_same
    have dv1 : Dvs (upd (upd H t1 (.tup [.str "none"])) r (.lst [.ref t1])) [.ref t1] [Sce.no] := .cons (Dv.sce (same_new nr _ _ upd_same)) .nil
    generalize (upd (upd H t1 (.tup [.str "none"])) r (.lst [.ref t1])) = H1 at s1 hr1 dv1 ⊢
    -- pads
    refine ⟨_, rfl, .inl ⟨rfl, _, SqL.of hr1⟩, _, rfl, _, rfl, by omega, by omega, fun D nD => lc_range (n := i) (fun j Hz => Same H1 Hz ∧ ∃ (vs : List V) (ss : List Sce), Hz D = some (.lst vs) ∧ Dvs Hz vs ss ∧ ss.length = j ∧ ∀ s ∈ ss, s.sml) ⟨same_new nD, [], [], upd_same, .nil, rfl, fun s h => (by cases h)⟩ ?_ ?_⟩
    · rintro j Hz hj ⟨sz, vs, ss, hD, dv, l, sm⟩
      refine ⟨rfl, _, rfl, by show 2 ≤ sizeLine; decide, fun t nt => ⟨_, same_new nt _ _ hD, by rw [dv.len]; exact small1000 (by omega), same_mut (sz.trans (same_new nt)) nD, vs ++ [.ref t], ss ++ [.pad (0 + (j : Int))], upd_same, ?_, by rw [List.length_append, l]; rfl, mem_snoc sm (by show (0 + (j : Int)).natAbs ≤ 100; omega)⟩⟩
      have tD : t ≠ D := (ne_of_none hD nt).symm
      exact Dvs.app (sces_up (same_new nt _ _ hD) (dv.same (same_new nt))) (.cons (Dv.sce (by rw [upd_ne tD]; exact upd_same)) .nil)
    rintro H2 ⟨s2, vs, ss, hD, dv, l, sm⟩
    have hr2 := s2 _ _ hr1
    refine ⟨r, D, _, _, rfl, rfl, hr2, hD, by rw [dv.len]; exact Nat.le_of_lt (small1000 (by show 1 + _ ≤ _; omega)), ?_⟩
    have s3 : Same H (upd H2 r (.lst ([.ref t1] ++ vs))) := same_mut (s1.trans s2) nr0
    have hr3 : (upd H2 r (.lst ([.ref t1] ++ vs))) r = some (.lst ([.ref t1] ++ vs)) := upd_same
    have dv3 : Dvs (upd H2 r (.lst ([.ref t1] ++ vs))) ([.ref t1] ++ vs) ([Sce.no] ++ ss) := sces_up hr2 ((dv1.same s2).app dv)
    have sm3 : ∀ s ∈ [Sce.no] ++ ss, s.sml := fun s h => by
      rcases List.mem_append.mp h with h | h
      · rw [List.mem_singleton.mp h]
        exact True.intro
      · exact sm s h
    have l3 : ([Sce.no] ++ ss).length = 1 + i := by rw [List.length_append, l]; rfl
    generalize (upd H2 r (.lst ([.ref t1] ++ vs))) = H3 at s3 hr3 dv3 ⊢
    generalize [V.ref t1] ++ vs = us at hr3 dv3 ⊢
    generalize [Sce.no] ++ ss = sa at dv3 sm3 l3
    clear dv dv1 hr2 hr1 s2 s1 sm l hD
    -- cells
    refine ⟨_, rfl, .inl ⟨rfl, _, SqL.of hr3⟩, _, rfl, _, rfl, by omega, by omega, fun D nD => lc_range (n := m) (fun j Hz => Same H3 Hz ∧ ∃ (vs : List V) (ss : List Sce), Hz D = some (.lst vs) ∧ Dvs Hz vs ss ∧ ss.length = j ∧ ∀ s ∈ ss, s.sml) ⟨same_new nD, [], [], upd_same, .nil, rfl, fun s h => (by cases h)⟩ ?_ ?_⟩
    · rintro j Hz hj ⟨sz, vs, ss, hD, dv, l, sm⟩
      refine ⟨rfl, _, rfl, by show 2 ≤ sizeLine; decide, fun t nt => ⟨_, same_new nt _ _ hD, by rw [dv.len]; exact small1000 (by omega), same_mut (sz.trans (same_new nt)) nD, vs ++ [.ref t], ss ++ [.cel (0 + (j : Int))], upd_same, ?_, by rw [List.length_append, l]; rfl, mem_snoc sm (by show (0 + (j : Int)).natAbs ≤ 100; omega)⟩⟩
      have tD : t ≠ D := (ne_of_none hD nt).symm
      exact Dvs.app (sces_up (same_new nt _ _ hD) (dv.same (same_new nt))) (.cons (Dv.sce (by rw [upd_ne tD]; exact upd_same)) .nil)
    rintro H4 ⟨s4, vs, ss, hD, dv, l, sm⟩
    have hr4 := s4 _ _ hr3
    refine ⟨r, D, _, _, rfl, rfl, hr4, hD, by rw [dv.len, dv3.len]; exact Nat.le_of_lt (small1000 (by omega)), ?_⟩
    have s5 : Same H (upd H4 r (.lst (us ++ vs))) := same_mut (s3.trans s4) nr0
    have hr5 : (upd H4 r (.lst (us ++ vs))) r = some (.lst (us ++ vs)) := upd_same
    have dv5 : Dvs (upd H4 r (.lst (us ++ vs))) (us ++ vs) (sa ++ ss) := sces_up hr4 ((dv3.same s4).app dv)
    have sm5 : ∀ s ∈ sa ++ ss, s.sml := fun s h => (List.mem_append.mp h).elim (sm3 s) (sm s)
    have l5 : (sa ++ ss).length = 1 + i + m := by rw [List.length_append, l, l3]
    generalize (upd H4 r (.lst (us ++ vs))) = H5 at s5 hr5 dv5 ⊢
    generalize us ++ vs = us at hr5 dv5 ⊢
    generalize sa ++ ss = sa at dv5 sm5 l5
    clear dv dv3 hr4 hr3 s4 s3 sm sm3 l hD
    change C8.tCut _ _ _ [some (.ref p), some (.int (i : Nat)), some (.int (m : Nat)), some (.bl wild), some (.ref r), none] H5
    refine ⟨fun σ Hz => σ = [some (.ref p), some (.int (i : Nat)), some (.int (m : Nat)), some (.bl wild), some (.ref r), none] ∧ Same H Hz ∧ ∃ (us : List V) (sa : List Sce), Hz r = some (.lst us) ∧ Dvs Hz us sa ∧ 0 < sa.length ∧ sa.length ≤ 100 ∧ ∀ s ∈ sa, s.sml, ?_, ?_⟩
    · cases wild with
      | false => exact ⟨_, rfl, _, rfl, iteF ⟨rfl, s5, us, sa, hr5, dv5, by omega, by omega, sm5⟩⟩
      | true =>
        refine ⟨_, rfl, _, rfl, iteT ?_⟩
        refine ⟨_, rfl, .inl ⟨rfl, _, SqL.of hr5⟩, _, rfl, by show 2 ≤ sizeLine; decide, fun t1 n1 => ⟨_, rfl, by show 2 ≤ sizeLine; decide, fun t2 n2 => ⟨_, rfl, by show 2 ≤ sizeLine; decide, fun t3 n3 => ⟨_, rfl, by show 2 ≤ sizeLine; decide, fun t4 n4 => ⟨by show 4 ≤ sizeLine; decide, fun L nL => ?_⟩⟩⟩⟩⟩
        have x1 := same_new (o := .tup [.str "pad", .int (-1)]) n1
        have x2 := same_new (o := .tup [.str "pad", .int (i : Nat)]) n2
        have x3 := same_new (o := .tup [.str "cell", .int (-1)]) n3
        have x4 := same_new (o := .tup [.str "cell", .int (m : Nat)]) n4
        have xL := same_new (o := .lst [.ref t1, .ref t2, .ref t3, .ref t4]) nL
        have x5 := x1.trans (x2.trans (x3.trans (x4.trans xL)))
        have hr6 := x5 _ _ hr5
        have dW : Dvs _ [.ref t1, .ref t2, .ref t3, .ref t4] [Sce.pad (-1), .pad (i : Nat), .cel (-1), .cel (m : Nat)] :=
          .cons (Dv.sce (xL _ _ (x4 _ _ (x3 _ _ (x2 _ _ upd_same))))) (.cons (Dv.sce (xL _ _ (x4 _ _ (x3 _ _ upd_same)))) (.cons (Dv.sce (xL _ _ (x4 _ _ upd_same))) (.cons (Dv.sce (xL _ _ upd_same)) .nil)))
        refine ⟨r, L, _, _, rfl, rfl, hr6, upd_same, by rw [dv5.len, l5]; exact Nat.le_of_lt (small1000 (by show _ + 4 ≤ _; omega)), ?_⟩
        refine ⟨rfl, same_mut (s5.trans x5) nr0, us ++ [.ref t1, .ref t2, .ref t3, .ref t4], sa ++ [Sce.pad (-1), .pad (i : Nat), .cel (-1), .cel (m : Nat)], upd_same, sces_up hr6 ((dv5.same x5).app dW), by rw [List.length_append]; show 0 < _ + 4; omega, by rw [List.length_append, l5]; show _ + 4 ≤ _; omega, fun s h => ?_⟩
        rcases List.mem_append.mp h with h | h
        · exact sm5 s h
        · simp only [List.mem_cons, List.not_mem_nil, or_false] at h
          rcases h with rfl | rfl | rfl | rfl
          · show (-1 : Int).natAbs ≤ 100
            decide
          · show ((i : Nat) : Int).natAbs ≤ 100
            omega
          · show (-1 : Int).natAbs ≤ 100
            decide
          · show ((m : Nat) : Int).natAbs ≤ 100
            omega
    rintro σ Hz ⟨rfl, sz, us, sa, hr, dv, pos, le, sm⟩
    have dz := d0.same sz
    have rp : r ≠ p := d0.off nr0 |>.1
    have rc : r ≠ c := d0.off nr0 |>.2
    refine ⟨_, rfl, _, rfl, p, c, r, us, rfl, dz, rp, rc, hr, by rw [dv.len]; exact pos, by rw [dv.len]; omega, fun H' v g hv => ?_⟩
    obtain ⟨k, hk⟩ := List.getElem?_of_mem hv
    obtain ⟨s, hs, ds⟩ := dv.at hk
    obtain ⟨t, rfl, ht⟩ := sce_inv ds
    obtain ⟨nc, cs0, z0, hp0, hc0, hl0⟩ := dz
    have tp : t ≠ p := ne_of ht hp0 (by intro z; cases z)
    have tc : t ≠ c := ne_of ht hc0 (by intro z; cases z)
    exact q H' t s ((Go.of d0 sz).trans g) tp tc (g.get tp tc ht) (sm s (List.mem_of_getElem? hs))

end K48
namespace K48
open PySem PySem.Spec PyProof.Rows L2 V0
/-! ### faults of cells -/
def nth (word : Str) (k : Nat) : Str := word ++ (Str.ofString (toString (k : Int)))
theorem log_small {k : Nat} (h : k < 10 ^ 12) : ((k : Int)).natAbs.log2 < 1920 := by
  rw [Int.natAbs_natCast]
  by_cases h0 : k = 0
  · rw [h0]
    decide
  · exact (Nat.log2_lt h0).mpr (Nat.lt_trans h (by decide))
theorem num_len {k : Nat} (h : k < 10 ^ 12) : (Str.ofString (toString (k : Int))).length ≤ 13 := PyData.shown_int_le (i := (k : Int)) (by rw [Int.natAbs_natCast]; exact h)
theorem nth_small {w : Str} {k : Nat} (hw : w.length ≤ 100) (hk : k < 10 ^ 12) : (nth w k).length ≤ 1000 := by
  unfold nth
  rw [app_len]
  have := num_len hk
  omega
theorem nth_fit {w : Str} {k : Nat} (hw : w.length ≤ 100) (hk : k < 10 ^ 12) : (nth w k).length ≤ sizeLine := small2000 (by have := nth_small hw hk; omega)
theorem nth_fit2 {w : Str} {k : Nat} (hw : w.length ≤ 100) (hk : k < 10 ^ 12) : w.length + (Str.ofString (toString (k : Int))).length ≤ sizeLine := by
  have h := nth_fit hw hk
  unfold nth at h
  rw [app_len] at h
  exact h
def ovs : Option Str → V
  | none => .non
  | some s => .str s
/-- the first fault of cells -/
def FaultIs (c : Cells) (o : Option Str) : Prop :=
  (∃ k e, o = some (nth "cell " k) ∧ c.rows[k]? = some e ∧ ¬ c.right e ∧ ∀ j f, j < k → c.rows[j]? = some f → c.right f) ∨
  ((∀ e ∈ c.rows, c.right e) ∧ ((∃ k s, o = some (nth "out " k) ∧ c.outs[k]? = some s ∧ ¬ c.there s = true ∧ ∀ j t, j < k → c.outs[j]? = some t → c.there t = true) ∨ (o = none ∧ ∀ s ∈ c.outs, c.there s = true)))
def sp__law_fault (K : PySem.W.Frag) : Sp := fun vs H Q _ => ∃ (v : V) (c : Cells), vs = [v] ∧ Dv H v c ∧ (∀ e ∈ c.rows, e.src.length ≤ 60) ∧ c.rows.length ≤ 1000 ∧ c.outs.length ≤ 1000 ∧ ∀ H' o, Same H H' → FaultIs c o → Q (ovs o) H'
theorem ok__law_fault {P : Program} {w : World} {K : PySem.W.Frag} {mg : Str → Option Value} {base : Heap} {C_KindError fI_KindError : Addr} {fd_KindError : FuncData} {C_LoopError fI_LoopError : Addr} {fd_LoopError : FuncData} {B_ : Addr} {mc_ : Value} {tk_MOST_SOURCES : Tok} {f f_law_there : Addr} {fd fd_law_there : FuncData} (F : Fun K "_law_fault" "_law_fault" s__law_fault f fd) (T : Txt K mg C_KindError fI_KindError fd_KindError C_LoopError fI_LoopError fd_LoopError B_ mc_ tk_MOST_SOURCES)
    (G__law_there : FnOk P w K mg base CX0 1 f_law_there fd_law_there ["cells", "source"] (sp__law_there K)) (D__law_there : Def K mg "_law_there" f_law_there fd_law_there ["cells", "source"]) :
    FnOk P w K mg base CX0 2 f fd ["cells"] (sp__law_fault K) := by
  refine F.ok sc_law_fault (fun vs H Q E h => ?_) (fun cdv A outer s H vs Q E hr h => ?_)
  · obtain ⟨v, c, rfl, _⟩ := h
    rfl
  · obtain ⟨v, c, rfl, hv, l60, many, ol, q⟩ := h
    have hv0 := hv
    obtain ⟨a, rw, oo, us, ws, rfl, ha, hR, hus, hW, hws⟩ := cells_inv hv
    refine ⟨_, (pss_cons (ps_for PassesOwn.never rfl (pi_range1 rfl T.m_range (pa_cons (pe_callB call_len_seq (by rfl) T.m_len (by decide +kernel) (pa_cons (pe_ix (r := rIxT K) ix_tup (pv 0) pe_int (fun _ _ => rfl)) pa_nil)) pa_nil)) (pg_name (i := 1) sc_law_fault.nd rfl (Or.inl rfl)) (pss_cons (ps_set (i := 2) sc_law_fault.nd rfl (.inl rfl) (pe_ix (r := rIxL K) ix_list (pe_ix (r := rIxT K) ix_tup (pv 0) pe_int (fun _ _ => rfl)) (pv 1) (fun _ _ => rfl)))
      (pss_cons (ps_set (i := 3) sc_law_fault.nd rfl (.inl rfl) (pe_and (pe_cmpR op_lt (pe_callB call_len_seq (by rfl) T.m_len (by decide +kernel) (pa_cons (pe_ix (r := rIxT K) ix_tup (pv 2) pe_int (fun _ _ => rfl)) pa_nil)) pe_int (nomark _)) (pe_one (pe_callB (cr_all (by rfl)) (by rfl) T.m_all (by decide +kernel) (pa_cons (pe_lc (own := [("source", 4)]) (g := gName 4) (tt := tYes) rfl sc_law_fault.nd (pi_list (pe_ix (r := rIxT K) ix_tup (pv 2) pe_int (fun _ _ => rfl))) (blkOk_by (N := N__law_fault) (sc := defScope s__law_fault) (by decide +kernel)) (fun _ _ _ _ _ => (pg_name (i := 4) sc_law_fault.nd rfl (Or.inl rfl))) (fun _ _ _ _ _ => pts_nil) (fun _ _ _ _ _ => (pe_call G__law_there (hr.mono (by omega)) (by rfl) D__law_there.m D__law_there.k D__law_there.b .nil pass0 (pa_cons (pv 0) (pa_cons (pv 4) pa_nil))))) pa_nil)))))
      (pss_cons (ps_set (i := 3) sc_law_fault.nd rfl (.inl rfl) (pe_and (pv 3) (pe_and (pe_chain op_le op_lt pe_int (pe_ix (r := rIxT K) ix_tup (pv 2) pe_int (fun _ _ => rfl)) (pe_op op_shl pe_int (pe_op op_shl pe_int (pe_callB call_len_seq (by rfl) T.m_len (by decide +kernel) (pa_cons (pe_ix (r := rIxT K) ix_tup (pv 2) pe_int (fun _ _ => rfl)) pa_nil))))) (pe_and (pe_cmpR (r := rIn K false) op_in_seq (pe_ix (r := rIxT K) ix_tup (pv 2) pe_int (fun _ _ => rfl)) (pe_tup (pa_cons pe_int (pa_cons pe_int pa_nil))) (by rfl)) (pe_one (pe_cmpR (r := rIn K false) op_in_seq (pe_ix (r := rIxT K) ix_tup (pv 2) pe_int (fun _ _ => rfl)) (pe_tup (pa_cons pe_int (pa_cons pe_int pa_nil))) (by rfl)))))))
      (pss_one (ps_if (PW.pt (pw_or (pt_not (pt_val (pv 3))) (pw_or1 (PW.pt (pw_and (pt_cmpR op_eq (pe_ix (r := rIxT K) ix_tup (pv 2) pe_int (fun _ _ => rfl)) pe_int (nomark _)) (pw_and1 (pt_cmpR op_eq (pe_ix (r := rIxT K) ix_tup (pv 2) pe_int (fun _ _ => rfl)) pe_int (nomark _)))))))) (pss_one (ps_ret (pe_op op_add_str pe_str (pe_callTy call_str_int (by rfl) T.m_str (by decide +kernel) (pa_cons (pv 1) pa_nil))))) pss_nil))))))
      (pss_cons (ps_for PassesOwn.never rfl (pi_range1 rfl T.m_range (pa_cons (pe_callB call_len_seq (by rfl) T.m_len (by decide +kernel) (pa_cons (pe_ix (r := rIxT K) ix_tup (pv 0) pe_int (fun _ _ => rfl)) pa_nil)) pa_nil)) (pg_name (i := 1) sc_law_fault.nd rfl (Or.inl rfl)) (pss_one (ps_if (pt_not (pt_val (pe_call G__law_there (hr.mono (by omega)) (by rfl) D__law_there.m D__law_there.k D__law_there.b .nil pass0 (pa_cons (pv 0) (pa_cons (pe_ix (r := rIxL K) ix_list (pe_ix (r := rIxT K) ix_tup (pv 0) pe_int (fun _ _ => rfl)) (pv 1) (fun _ _ => rfl)) pa_nil))))) (pss_one (ps_ret (pe_op op_add_str pe_str (pe_callTy call_str_int (by rfl) T.m_str (by decide +kernel) (pa_cons (pv 1) pa_nil))))) pss_nil)))
      (pss_one (ps_ret pe_non)))), ?_⟩
    refine ⟨_, rfl, a, _, 2, _, rfl, rfl, SqT.of ha, atI_nat (j := 2) rfl, rw, _, rfl, .inl (SqL.of hR), ?_⟩
    rw [hus.len]
    refine ⟨_, rfl, by omega, by omega, for_range (n := c.rows.length) (fun i σ Hx => ∃ y1 y2 y3 : Option V, σ = [some (.ref a), y1, y2, y3, none] ∧ Same H Hx ∧ ∀ j f, j < i → c.rows[j]? = some f → c.right f) ⟨none, none, none, rfl, Same.refl _, fun j f hj => absurd hj (Nat.not_lt_zero _)⟩ ?_ ?_⟩
    · rintro i σ Hx hi ⟨y1, y2, y3, rfl, sx, good⟩
      have he := List.getElem?_eq_getElem hi
      generalize c.rows[i] = e at he
      have em := List.mem_of_getElem? he
      have few := l60 e em
      rw [Int.zero_add]
      obtain ⟨u, hu, du⟩ := (hus.same sx).get he
      obtain ⟨a1, sl, ts, rfl, ha1, hsl, hts⟩ := cell_inv du
      have bad : ∀ Hy, Same H Hy → ¬ c.right e → Q (.str (nth "cell " i)) Hy := fun Hy sy nr => q Hy (some (nth "cell " i)) sy (.inl ⟨i, e, rfl, he, nr, good⟩)
      refine ⟨_, rfl, a, _, 2, _, rfl, rfl, SqT.of (sx _ _ ha), atI_nat (j := 2) rfl, _, rfl, rw, _, _, _, rfl, rfl, SqL.of (sx _ _ hR), atI_nat hu, ?_⟩
      have w5 : ("cell " : Str).length ≤ 100 := by decide +kernel
      have fit := nth_fit2 (k := i) w5 (by omega)
      refine ⟨_, rfl, a1, _, 1, _, rfl, rfl, SqT.of ha1, atI_nat (j := 1) rfl, sl, _, rfl, .inl (SqL.of hsl), _, _, rfl, rfl, _, rfl, ?_⟩
      rw [show decide (((ts.length : Nat) : Int) < 5) = decide (e.src.length < 5) from decide_eq_decide.mpr (by rw [hts.len]; omega)]
      by_cases c1 : e.src.length < 5
      rotate_left
      · rw [decide_eq_false c1]
        exact iteF ⟨_, rfl, _, rfl, iteF ⟨_, rfl, _, rfl, iteT (iteT ⟨_, rfl, _, rfl, log_small (by omega), _, _, rfl, rfl, fit, bad Hx sx fun z => c1 (by have := z.1; omega)⟩)⟩⟩
      rw [decide_eq_true c1]
      refine iteT ⟨_, rfl, a1, _, 1, _, rfl, rfl, SqT.of ha1, atI_nat (j := 1) rfl, sl, rfl, ⟨_, SqL.of hsl⟩, fun D nD => lc_list (xs := ts) (fun j Hz => Same Hx Hz ∧ Hz D = some (.lst (((e.src.map c.there).take j).map V.bl))) ⟨same_new nD, upd_same⟩ (fun j Hz _ h => SqL.of (h.1 _ _ hsl)) ?_ ?_⟩
      · rintro j u2 Hz hu2 ⟨sz, hD⟩
        obtain ⟨s, hs, ds⟩ := (hts.same sz).at hu2
        have hA : (e.src.map c.there)[j]? = some (c.there s) := by rw [List.getElem?_map, hs]; rfl
        have jl := (List.getElem?_eq_some_iff.mp hs).1
        refine ⟨rfl, _, rfl, _, rfl, .ref a, u2, c, s, rfl, hv0.same (sx.trans sz), ds, _, hD, ?_, same_mut sz nD, ?_⟩
        · rw [List.length_map, List.length_take]
          exact small1000 (by omega)
        · rw [upd_same, take_snoc hA, List.map_append]
          rfl
      rintro Hy ⟨sy, hD⟩
      rw [hts.len, ← List.length_map (f := c.there), List.take_length] at hD
      have sxy := sx.trans sy
      have ha1 := sy _ _ ha1
      have hsl := sy _ _ hsl
      refine ⟨D, _, rfl, SqL.of hD, _, rfl, _, rfl, ?_⟩
      by_cases c2 : ∀ s ∈ e.src, c.there s = true
      rotate_left
      · rw [show ((e.src.map c.there).all id) = false from by
          obtain ⟨s, hs, ns⟩ : ∃ s ∈ e.src, ¬ c.there s = true := Classical.byContradiction fun z => c2 fun s hs => Classical.byContradiction fun n => z ⟨s, hs, n⟩
          rw [List.all_eq_false]
          exact ⟨_, List.mem_map.mpr ⟨s, hs, rfl⟩, ns⟩]
        exact iteF ⟨_, rfl, _, rfl, iteT (iteT ⟨_, rfl, _, rfl, log_small (by omega), _, _, rfl, rfl, fit, bad Hy sxy fun z => c2 z.2.1⟩)⟩
      rw [show ((e.src.map c.there).all id) = true from by
        rw [List.all_eq_true]
        intro b hb
        obtain ⟨s, hs, rfl⟩ := List.mem_map.mp hb
        exact c2 s hs]
      have e1 : (1 : Int) * 2 ^ ((ts.length : Nat) : Int).toNat = ((2 ^ e.src.length : Nat) : Int) := by
        rw [hts.len, shl_one]
      have e2 : (1 : Int) * 2 ^ ((1 : Int) * 2 ^ ((ts.length : Nat) : Int).toNat).toNat = ((2 ^ 2 ^ e.src.length : Nat) : Int) := by
        rw [e1, shl_one]
      have p16 := Nat.pow_le_pow_right (n := 2) (by decide) (show e.src.length ≤ 4 by omega)
      have p16 : 2 ^ e.src.length ≤ 16 := p16
      refine iteT ⟨_, rfl, a1, _, 2, _, rfl, rfl, SqT.of ha1, atI_nat (j := 2) rfl, _, _, rfl, rfl, _, rfl, ?_⟩
      by_cases c3 : (0 : Int) ≤ e.table
      rotate_left
      · rw [decide_eq_false c3]
        exact iteF ⟨_, rfl, iteF ⟨_, rfl, _, rfl, iteT (iteT ⟨_, rfl, _, rfl, log_small (by omega), _, _, rfl, rfl, fit, bad Hy sxy fun z => c3 z.2.2.1.1⟩)⟩⟩
      rw [decide_eq_true c3]
      refine iteT ⟨_, rfl, a1, _, 1, _, rfl, rfl, SqT.of ha1, atI_nat (j := 1) rfl, sl, _, rfl, .inl (SqL.of hsl), _, _, rfl, rfl, ⟨Int.natCast_nonneg _, by rw [hts.len]; omega, by decide⟩, _, _, rfl, rfl, ⟨by rw [e1]; exact Int.natCast_nonneg _, by rw [e1]; omega, by decide⟩, _, _, rfl, rfl, _, rfl, ?_⟩
      rw [e2]
      by_cases c4 : e.table < ((2 ^ 2 ^ e.src.length : Nat) : Int)
      rotate_left
      · rw [decide_eq_false c4]
        exact iteF ⟨_, rfl, _, rfl, iteT (iteT ⟨_, rfl, _, rfl, log_small (by omega), _, _, rfl, rfl, fit, bad Hy sxy fun z => c4 z.2.2.1.2⟩)⟩
      rw [decide_eq_true c4]
      refine iteT ⟨_, rfl, a1, _, 3, _, rfl, rfl, SqT.of ha1, atI_nat (j := 3) rfl, by show 2 ≤ sizeLine; decide, fun t1 n1 => ⟨t1, _, rfl, .inr (SqT.of upd_same), rfl, rfl, _, rfl, ?_⟩⟩
      have sA := same_new (o := .tup [.int 0, .int 1]) n1
      have sxA := sxy.trans sA
      have ha1 := sA _ _ ha1
      show if inV (.int e.kept) [.int 0, .int 1] = true then _ else _
      rw [in01]
      by_cases c5 : e.kept = 0 ∨ e.kept = 1
      rotate_left
      · rw [decide_eq_false c5]
        exact iteF ⟨_, rfl, _, rfl, iteT (iteT ⟨_, rfl, _, rfl, log_small (by omega), _, _, rfl, rfl, fit, bad _ sxA fun z => c5 z.2.2.2.1⟩)⟩
      rw [decide_eq_true c5]
      refine iteT ⟨_, rfl, a1, _, 4, _, rfl, rfl, SqT.of ha1, atI_nat (j := 4) rfl, by show 2 ≤ sizeLine; decide, fun t2 n2 => ⟨t2, _, rfl, .inr (SqT.of upd_same), rfl, rfl, ?_⟩⟩
      have sB := same_new (o := .tup [.int 0, .int 1]) n2
      have sxB := sxA.trans sB
      have ha1 := sB _ _ ha1
      refine ⟨_, rfl, _, rfl, ?_⟩
      show if (!inV (.int e.start) [.int 0, .int 1]) = true then _ else _
      rw [in01]
      by_cases c6 : e.start = 0 ∨ e.start = 1
      rotate_left
      · rw [decide_eq_false c6]
        exact iteT (iteT ⟨_, rfl, _, rfl, log_small (by omega), _, _, rfl, rfl, fit, bad _ sxB fun z => c6 z.2.2.2.2.1⟩)
      rw [decide_eq_true c6]
      have next : c.right e → ∀ j f, j < i + 1 → c.rows[j]? = some f → c.right f := fun z j f hj hf => by
        by_cases k : j < i
        · exact good j f k hf
        · have : j = i := by omega
          subst this
          rw [he] at hf
          cases hf
          exact z
      refine iteF ⟨_, rfl, a1, _, 4, _, rfl, rfl, SqT.of ha1, atI_nat (j := 4) rfl, rfl, _, rfl, ?_⟩
      rw [deci]
      by_cases c7 : e.start = 1
      · rw [decide_eq_true c7]
        refine iteT ⟨_, rfl, a1, _, 3, _, rfl, rfl, SqT.of ha1, atI_nat (j := 3) rfl, rfl, _, rfl, ?_⟩
        rw [deci]
        by_cases c8 : e.kept = 0
        · rw [decide_eq_true c8]
          exact iteT ⟨_, rfl, _, rfl, log_small (by omega), _, _, rfl, rfl, fit, bad _ sxB fun z => by have := z.2.2.2.2.2; omega⟩
        · rw [decide_eq_false c8]
          exact iteF ⟨_, _, _, rfl, sxB, next ⟨by omega, c2, ⟨c3, c4⟩, c5, c6, by omega⟩⟩
      · rw [decide_eq_false c7]
        exact iteF (iteF ⟨_, _, _, rfl, sxB, next ⟨by omega, c2, ⟨c3, c4⟩, c5, c6, by omega⟩⟩)
    rintro σ H1 ⟨y1, y2, y3, rfl, s1, good⟩
    have all : ∀ e ∈ c.rows, c.right e := fun e he => by
      obtain ⟨j, hj⟩ := List.getElem?_of_mem he
      exact good j e (List.getElem?_eq_some_iff.mp hj).1 hj
    refine ⟨_, rfl, a, _, 3, _, rfl, rfl, SqT.of (s1 _ _ ha), atI_nat (j := 3) rfl, oo, _, rfl, .inl (SqL.of (s1 _ _ hW)), ?_⟩
    rw [hws.len]
    refine ⟨_, rfl, by omega, by omega, for_range (n := c.outs.length) (fun i σ Hx => ∃ y1 : Option V, σ = [some (.ref a), y1, y2, y3, none] ∧ Same H Hx ∧ ∀ j t, j < i → c.outs[j]? = some t → c.there t = true) ⟨_, rfl, s1, fun j f hj => absurd hj (Nat.not_lt_zero _)⟩ ?_ ?_⟩
    · rintro i σ Hx hi ⟨y1, rfl, sx, ok⟩
      have hs := List.getElem?_eq_getElem hi
      generalize c.outs[i] = s at hs
      rw [Int.zero_add]
      obtain ⟨u, hu, du⟩ := (hws.same sx).get hs
      have w4 : ("out " : Str).length ≤ 100 := by decide +kernel
      have fit := nth_fit2 (k := i) w4 (by omega)
      refine ⟨_, rfl, _, rfl, a, _, 3, _, rfl, rfl, SqT.of (sx _ _ ha), atI_nat (j := 3) rfl, _, rfl, oo, _, _, _, rfl, rfl, SqL.of (sx _ _ hW), atI_nat hu, .ref a, u, c, s, rfl, hv0.same sx, du, _, rfl, ?_⟩
      by_cases t : c.there s = true
      · rw [t]
        refine iteF ⟨_, rfl, sx, fun j f hj hf => ?_⟩
        by_cases e : j < i
        · exact ok j f e hf
        · have : j = i := by omega
          subst this
          rw [hs] at hf
          cases hf
          exact t
      · rw [Bool.eq_false_iff.mpr t]
        exact iteT ⟨_, rfl, _, rfl, log_small (by omega), _, _, rfl, rfl, fit, q Hx (some (nth "out " i)) sx (.inr ⟨all, .inl ⟨i, s, rfl, hs, t, ok⟩⟩)⟩
    rintro σ H2 ⟨y1, rfl, s2, ok⟩
    exact q H2 none s2 (.inr ⟨all, .inr ⟨rfl, fun s hs => by
      obtain ⟨j, hj⟩ := List.getElem?_of_mem hs
      exact ok j s (List.getElem?_eq_some_iff.mp hj).1 hj⟩⟩)

end K48
namespace K48
open PySem PySem.Spec PyProof.Rows L2 V0
/-! ### closing by turns -/
/-- a way of n steps -/
inductive Stp (U : Nat → List Nat) : Nat → Nat → Nat → Prop where
  | zero (x : Nat) : Stp U 0 x x
  | succ {n x y z : Nat} : y ∈ U x → Stp U n y z → Stp U (n + 1) x z
/-- a way that meets no name twice; l: the names on it -/
inductive Way (U : Nat → List Nat) : List Nat → Nat → Nat → Prop where
  | one (x : Nat) : Way U [x] x x
  | cons {l : List Nat} {x y z : Nat} : y ∈ U x → Way U l y z → x ∉ l → Way U (x :: l) x z
theorem Way.from {U : Nat → List Nat} {l : List Nat} {y z : Nat} (h : Way U l y z) : ∀ {x : Nat}, x ∈ l → ∃ l', Way U l' x z := by
  induction h with
  | one a =>
    intro x hx
    rw [List.mem_singleton.mp hx]
    exact ⟨_, .one a⟩
  | @cons l a b c hb hw na ih =>
    intro x hx
    rcases List.mem_cons.mp hx with rfl | hx
    · exact ⟨_, .cons hb hw na⟩
    · exact ih hx
theorem Rch.way {U : Nat → List Nat} {x z : Nat} (h : Rch U x z) : ∃ l, Way U l x z := by
  induction h with
  | rf x => exact ⟨_, .one x⟩
  | @to x y z hy _ ih =>
    obtain ⟨l, w⟩ := ih
    by_cases c : x ∈ l
    · exact w.from c
    · exact ⟨_, .cons hy w c⟩
theorem Way.nodup {U : Nat → List Nat} {l : List Nat} {x z : Nat} (h : Way U l x z) : l.Nodup := by
  induction h with
  | one x => simp
  | cons _ _ n ih => exact List.nodup_cons.mpr ⟨n, ih⟩
theorem Way.sub {U : Nat → List Nat} {N l : List Nat} {x z : Nat} (g : Gf U N) (h : Way U l x z) : x ∈ N → ∀ y ∈ l, y ∈ N := by
  induction h with
  | one x => exact fun hx y hy => by rw [List.mem_singleton.mp hy]; exact hx
  | @cons l x y z hy _ _ ih =>
    intro hx w hw
    rcases List.mem_cons.mp hw with rfl | hw
    · exact hx
    · exact ih (g.dn _ hx _ hy) w hw
theorem Way.stp {U : Nat → List Nat} {l : List Nat} {x z : Nat} (h : Way U l x z) : ∃ n, l.length = n + 1 ∧ Stp U n x z := by
  induction h with
  | one x => exact ⟨0, rfl, .zero x⟩
  | @cons l x y z hy _ _ ih =>
    obtain ⟨n, e, s⟩ := ih
    exact ⟨n + 1, by rw [List.length_cons, e], .succ hy s⟩
/-- who leads back to itself does so in as many steps as there are names -/
theorem OnC.stp {U : Nat → List Nat} {N : List Nat} (g : Gf U N) {y : Nat} (hy : y ∈ N) (h : OnC U y) : ∃ m, m + 1 ≤ N.length ∧ Stp U (m + 1) y y := by
  obtain ⟨z, hz, hr⟩ := h
  obtain ⟨l, w⟩ := hr.way
  obtain ⟨n, e, s⟩ := w.stp
  have := gnd_le w.nodup (w.sub g (g.dn y hy z hz))
  exact ⟨n, by omega, .succ hz s⟩
theorem Stp.rch {U : Nat → List Nat} {n x z : Nat} (h : Stp U n x z) : Rch U x z := by
  induction h with
  | zero x => exact .rf x
  | succ hy _ ih => exact .to hy ih
/-- what R holds of name k: only what k leads to; all that it leads to in at most t steps -/
structure CI (U : Nat → List Nat) (t k : Nat) (r : List Nat) : Prop where
  so : ∀ x ∈ r, ∃ y, y ∈ U k ∧ Rch U y x
  cv : ∀ m x, m < t → Stp U (m + 1) k x → x ∈ r
theorem CI.first {U : Nat → List Nat} (k : Nat) : CI U 1 k (U k) := by
  refine ⟨fun x hx => ⟨x, hx, .rf x⟩, fun m x hm s => ?_⟩
  have : m = 0 := by omega
  subst this
  cases s with
  | succ hy s =>
    cases s
    exact hy
theorem CI.less {U : Nat → List Nat} {t t' k : Nat} {r : List Nat} (h : CI U t k r) (le : t' ≤ t) : CI U t' k r := ⟨h.so, fun m x hm s => h.cv m x (by omega) s⟩
/-- more of the same kind -/
theorem CI.join {U : Nat → List Nat} {t k o : Nat} {r ro r' : List Nat} (h : CI U t k r) (ho : ∀ x ∈ ro, ∃ y, y ∈ U o ∧ Rch U y x) (ko : o ∈ r) (e : ∀ x, x ∈ r' ↔ x ∈ r ∨ x ∈ ro) : CI U t k r' := by
  refine ⟨fun x hx => ?_, fun m x hm s => (e x).mpr (.inl (h.cv m x hm s))⟩
  rcases (e x).mp hx with hx | hx
  · exact h.so x hx
  · obtain ⟨y, hy, a⟩ := h.so o ko
    obtain ⟨z, hz, b⟩ := ho x hx
    exact ⟨y, hy, a.trans (.to hz b)⟩
/-- a turn for k is over: all that its uses hold it holds too -/
theorem CI.turn {U : Nat → List Nat} {t k : Nat} {r : List Nat} (t1 : 1 ≤ t) (h : CI U t k r) (all : ∀ o ∈ U k, ∀ m x, m < t → Stp U (m + 1) o x → x ∈ r) : CI U (t + 1) k r := by
  refine ⟨h.so, fun m x hm s => ?_⟩
  by_cases c : m < t
  · exact h.cv m x c s
  · obtain ⟨m', rfl⟩ : ∃ m', m = m' + 1 := ⟨m - 1, by omega⟩
    cases s with
    | succ hy s => exact all _ hy m' x (by omega) s
/-- after as many turns as there are names -/
theorem CI.done {U : Nat → List Nat} {N : List Nat} (g : Gf U N) {t k : Nat} {r : List Nat} (hk : k ∈ N) (h : CI U t k r) (ht : N.length ≤ t) : k ∈ r ↔ OnC U k := by
  constructor
  · exact h.so k
  · intro c
    obtain ⟨m, hm, s⟩ := c.stp g hk
    exact h.cv m k (by omega) s

end K48
namespace K48
open PySem PySem.Spec PyProof.Rows L2 V0
/-! ### cells are checked -/
theorem FaultIs.uniq {c : Cells} {o o' : Option Str} (h : FaultIs c o) (h' : FaultIs c o') : o = o' := by
  rcases h with ⟨k, e, rfl, he, ne, al⟩ | ⟨all, h⟩
  · rcases h' with ⟨k', e', rfl, he', ne', al'⟩ | ⟨all', _⟩
    · have : k = k' := by
        by_cases c1 : k < k'
        · exact absurd (al' k e c1 he) ne
        · by_cases c2 : k' < k
          · exact absurd (al k' e' c2 he') ne'
          · omega
      rw [this]
    · exact absurd (all' e (List.mem_of_getElem? he)) ne
  · rcases h' with ⟨k', e', rfl, he', ne', al'⟩ | ⟨all', h'⟩
    · exact absurd (all e' (List.mem_of_getElem? he')) ne'
    · rcases h with ⟨k, s, rfl, hs, ns, al⟩ | ⟨rfl, al⟩
      · rcases h' with ⟨k', s', rfl, hs', ns', al'⟩ | ⟨rfl, al'⟩
        · have : k = k' := by
            by_cases c1 : k < k'
            · exact absurd (al' k s c1 hs) ns
            · by_cases c2 : k' < k
              · exact absurd (al k' s' c2 hs') ns'
              · omega
          rw [this]
        · exact absurd (al' s (List.mem_of_getElem? hs)) ns
      · rcases h' with ⟨k', s', rfl, hs', ns', al'⟩ | ⟨rfl, al'⟩
        · exact absurd (al s' (List.mem_of_getElem? hs')) ns'
        · rfl
def circ (c : Cells) (y : Nat) : Prop := y < c.rows.length ∧ OnC (usesOf c.rows) y
theorem right_inr {c : Cells} (h : ∀ e ∈ c.rows, c.right e) : ∀ e ∈ c.rows, ∀ s ∈ e.src, InR c.rows s := fun e he s hs => by
  have := (h e he).2.1 s hs
  cases s with
  | no => trivial
  | pad i => trivial
  | cel i =>
    have h2 : decide (0 ≤ i ∧ i < (c.rows.length : Int)) = true := this
    show 0 ≤ i ∧ i < (c.rows.length : Int)
    exact of_decide_eq_true h2
theorem str_empty' (z : Str) : Str.empty ++ z = z := by
  show Str.mk (#[] ++ z.cps) = z
  rw [Array.empty_append]
theorem rg_vn (n : Nat) : rgV 0 (n : Nat) = vn (List.range n) := by
  unfold rgV vn
  rw [show (((n : Nat) : Int) - 0).toNat = n by omega]
  exact List.map_congr_left fun i _ => by rw [Int.zero_add]
theorem vn_ints (xs : List Nat) : vn xs = (xs.map fun (n : Nat) => (n : Int)).map V.int := by
  unfold vn
  rw [List.map_map]
  rfl
def sp_check_cells (K : PySem.W.Frag) (CK CL : Addr) : Sp := fun vs H Q E => ∃ (v : V) (c : Cells), vs = [v] ∧ Dv H v c ∧ (∀ e ∈ c.rows, e.src.length ≤ 60) ∧ c.rows.length ≤ 1000 ∧ c.outs.length ≤ 1000 ∧
  (∀ z, FaultIs c (some z) → ∀ d H', Same H H' → H' d = some (.xd [("place", .str z)]) → E (.ref CK) (some d) H') ∧
  (FaultIs c none → ∀ (l d : Addr) (res : List Nat) H', Same H H' → H' l = some (.lst (vn res)) → res.Pairwise (· < ·) → (∀ y, y ∈ res ↔ circ c y) → res ≠ [] → H' d = some (.xd [("places", .ref l)]) → E (.ref CL) (some d) H') ∧
  (FaultIs c none → (∀ y, ¬ circ c y) → ∀ H', Same H H' → Q .non H')
theorem ok_check_cells {P : Program} {w : World} {K : PySem.W.Frag} {mg : Str → Option Value} {base : Heap} {C_KindError fI_KindError : Addr} {fd_KindError : FuncData} {C_LoopError fI_LoopError : Addr} {fd_LoopError : FuncData} {B_ : Addr} {mc_ : Value} {tk_MOST_SOURCES : Tok} {f f_cell_right f_is_there fon_circles f_uses : Addr} {fd fd_cell_right fd_is_there fdon_circles fd_uses : FuncData} (F : Fun K "check_cells" "check_cells" s_check_cells f fd) (T : Txt K mg C_KindError fI_KindError fd_KindError C_LoopError fI_LoopError fd_LoopError B_ mc_ tk_MOST_SOURCES)
    (G__cell_right : FnOk P w K mg base CX0 2 f_cell_right fd_cell_right ["cells", "cell"] (sp__cell_right K)) (D__cell_right : Def K mg "_cell_right" f_cell_right fd_cell_right ["cells", "cell"])
    (G__is_there : FnOk P w K mg base CX0 1 f_is_there fd_is_there ["cells", "source"] (sp__is_there K)) (D__is_there : Def K mg "_is_there" f_is_there fd_is_there ["cells", "source"])
    (G_on_circles : FnOk P w K mg base CX0 3 fon_circles fdon_circles ["names", "uses"] (sp_on_circles K)) (D_on_circles : Def K mg "on_circles" fon_circles fdon_circles ["names", "uses"])
    (G__uses : FnOk P w K mg base CX0 1 f_uses fd_uses ["rows"] (sp__uses K)) (D__uses : Def K mg "_uses" f_uses fd_uses ["rows"])
    (G_LoopError : FnOk P w K mg base CX0 1 fI_LoopError fd_LoopError ["self", "places"] (spExcL K "places"))
    (G_KindError : FnOk P w K mg base CX0 1 fI_KindError fd_KindError ["self", "place"] (spExc K "place"))
    (G_KindError : FnOk P w K mg base CX0 1 fI_KindError fd_KindError ["self", "place"] (spExc K "place")) :
    FnOk P w K mg base (L2N.CX P w) 6 f fd ["cells"] (sp_check_cells K C_KindError C_LoopError) := by
  refine okN F sccheck_cells (fun vs H Q E h => ?_) (fun cdv A outer s0 H vs Q E hr h => ?_)
  · obtain ⟨v, c, rfl, _⟩ := h
    rfl
  · obtain ⟨v, c, rfl, hv, l60, many, ol, qk, ql, q⟩ := h
    have hv0 := hv
    obtain ⟨a, rw, oo, us, ws, rfl, ha, hR, hus, hW, hws⟩ := cells_inv hv
    refine ⟨_, (pss_cons (ps_asg (pv 0) (pg_tup (by rfl) (pgs_cons (pg_name (i := 1) sccheck_cells.nd rfl (Or.inl rfl)) (pgs_cons (pg_name (i := 1) sccheck_cells.nd rfl (Or.inl rfl)) (pgs_cons (pg_name (i := 2) sccheck_cells.nd rfl (Or.inl rfl)) (pgs_cons (pg_name (i := 3) sccheck_cells.nd rfl (Or.inl rfl)) pgs_nil))))))
      (pss_cons (ps_for (passes_of rfl) rfl (pi_enum (by rfl) T.m_enumerate (pa_cons (pv 2) pa_nil)) (pg_tup (by rfl) (pgs_cons (pg_name (i := 4) sccheck_cells.nd rfl (Or.inl rfl)) (pgs_cons (pg_name (i := 5) sccheck_cells.nd rfl (Or.inl rfl)) pgs_nil))) (pss_one (ps_if (pt_not (pt_val (pe_call G__cell_right (hr.mono (by omega)) (by rfl) D__cell_right.m D__cell_right.k D__cell_right.b .nil pass0 (pa_cons (pv 0) (pa_cons (pv 5) pa_nil))))) (pss_one (L2N.ps_raise rfl (L2N.takes_of rfl rfl rfl rfl) (pmk_oexN T.x_KindError.oex T.x_KindError.ini T.x_KindError.ty G_KindError (hr.mono (by omega)) T.x_KindError.b pass0 (by rfl) T.x_KindError.m (pa_cons (pe_joined (PJ.cons pe_str (PJ.cons (pe_fmt (pv 4)) PJ.nil))) pa_nil)))) pss_nil)))
      (pss_cons (ps_for (passes_of rfl) rfl (pi_enum (by rfl) T.m_enumerate (pa_cons (pv 3) pa_nil)) (pg_tup (by rfl) (pgs_cons (pg_name (i := 6) sccheck_cells.nd rfl (Or.inl rfl)) (pgs_cons (pg_name (i := 7) sccheck_cells.nd rfl (Or.inl rfl)) pgs_nil))) (pss_one (ps_if (pt_not (pt_val (pe_call G__is_there (hr.mono (by omega)) (by rfl) D__is_there.m D__is_there.k D__is_there.b .nil pass0 (pa_cons (pv 0) (pa_cons (pv 7) pa_nil))))) (pss_one (L2N.ps_raise rfl (L2N.takes_of rfl rfl rfl rfl) (pmk_oexN T.x_KindError.oex T.x_KindError.ini T.x_KindError.ty G_KindError (hr.mono (by omega)) T.x_KindError.b pass0 (by rfl) T.x_KindError.m (pa_cons (pe_joined (PJ.cons pe_str (PJ.cons (pe_fmt (pv 6)) PJ.nil))) pa_nil)))) pss_nil)))
      (pss_cons (ps_set (i := 8) sccheck_cells.nd rfl (.inl rfl) (pe_call G_on_circles (hr.mono (by omega)) (by rfl) D_on_circles.m D_on_circles.k D_on_circles.b .nil pass0 (pa_cons (pe_listRg rfl (by rfl) T.m_list (prg_1 (by rfl) T.m_range (pe_callB call_len_seq (by rfl) T.m_len (by decide +kernel) (pa_cons (pv 2) pa_nil)))) (pa_cons (pe_call G__uses (hr.mono (by omega)) (by rfl) D__uses.m D__uses.k D__uses.b .nil pass0 (pa_cons (pv 2) pa_nil)) pa_nil))))
      (pss_one (ps_if (pt_truthK (K := K) rfl (pv 8) (by intro _; rfl)) (pss_one (L2N.ps_raise rfl (L2N.takes_of rfl rfl rfl rfl) (pmk_oexN T.x_LoopError.oex T.x_LoopError.ini T.x_LoopError.ty G_LoopError (hr.mono (by omega)) T.x_LoopError.b pass0 (by rfl) T.x_LoopError.m (pa_cons (pv 8) pa_nil)))) pss_nil)))))), ?_⟩
    refine ⟨_, rfl, a, _, rfl, SqT.of ha, rfl, _, _, rfl, _, _, rfl, _, _, rfl, _, _, rfl, rfl, ?_⟩
    refine ⟨_, rfl, rw, _, rfl, SqL.of hR, for_it (walk_enum (K := K) (a := rw) (xs := us)) (fun i σ Hx => ∃ y4 y5 : Option V, σ = [some (.ref a), some (.int (c.ins : Nat)), some (.ref rw), some (.ref oo), y4, y5, none, none, none] ∧ Same H Hx ∧ ∀ j f, j < i → c.rows[j]? = some f → c.right f) ⟨none, none, rfl, Same.refl _, fun j f hj => absurd hj (Nat.not_lt_zero _)⟩ (fun i σ Hx _ h => ?_) ?_ ?_⟩
    · obtain ⟨_, _, _, s, _⟩ := h
      exact SqL.of (s _ _ hR)
    · rintro i x σ Hx Hx' hi ⟨y4, y5, rfl, sx, good⟩ ⟨T1, x1, x2, rfl, nT, rfl, e1, e2⟩
      cases e1
      obtain ⟨e, he, de⟩ := hus.at e2
      have em := List.mem_of_getElem? he
      have il := (List.getElem?_eq_some_iff.mp he).1
      have sT := same_new (o := .tup [.int (i : Nat), x2]) nT
      refine ⟨T1, _, rfl, SqT.of upd_same, rfl, _, _, rfl, _, _, rfl, rfl, ?_⟩
      have sx1 := sx.trans sT
      refine ⟨_, rfl, _, rfl, .ref a, x2, c, e, rfl, hv0.same sx1, de.same sx1, l60 e em, fun H2 k s2 ek => ⟨_, rfl, ?_⟩⟩
      cases k with
      | false =>
        have nr : ¬ c.right e := fun z => by
          have := ek.mpr z
          cases this
        refine iteT ⟨_, rfl, by decide, _, rfl, .inr ⟨_, rfl, log_small (by omega), _, rfl, ?_, ?_⟩⟩
        · rw [str_empty']
          exact nth_fit (w := "cell ") (by decide +kernel) (by omega)
        · rw [str_empty']
          exact ⟨by show 1 ≤ 1000; decide, raised (z := nth "cell " i) T.x_KindError (nth_small (by decide +kernel) (by omega)) fun d H3 s3 e3 => qk _ (.inl ⟨i, e, rfl, he, nr, good⟩) d H3 (sx1.trans (s2.trans s3)) e3⟩
      | true =>
        refine iteF ⟨_, _, rfl, sx1.trans s2, fun j f hj hf => ?_⟩
        by_cases c1 : j < i
        · exact good j f c1 hf
        · have : j = i := by omega
          subst this
          rw [he] at hf
          cases hf
          exact ek.mp rfl
    rintro σ H1 ⟨y4, y5, rfl, s1, good⟩
    have allR : ∀ e ∈ c.rows, c.right e := fun e he => by
      obtain ⟨j, hj⟩ := List.getElem?_of_mem he
      exact good j e (by rw [hus.len]; exact (List.getElem?_eq_some_iff.mp hj).1) hj
    refine ⟨_, rfl, oo, _, rfl, SqL.of (s1 _ _ hW), for_it (walk_enum (K := K) (a := oo) (xs := ws)) (fun i σ Hx => ∃ y6 y7 : Option V, σ = [some (.ref a), some (.int (c.ins : Nat)), some (.ref rw), some (.ref oo), y4, y5, y6, y7, none] ∧ Same H Hx ∧ ∀ j t, j < i → c.outs[j]? = some t → c.there t = true) ⟨none, none, rfl, s1, fun j f hj => absurd hj (Nat.not_lt_zero _)⟩ (fun i σ Hx _ h => ?_) ?_ ?_⟩
    · obtain ⟨_, _, _, s, _⟩ := h
      exact SqL.of (s _ _ hW)
    · rintro i x σ Hx Hx' hi ⟨y6, y7, rfl, sx, good⟩ ⟨T1, x1, x2, rfl, nT, rfl, e1, e2⟩
      cases e1
      obtain ⟨t, ht, dt⟩ := hws.at e2
      have il := (List.getElem?_eq_some_iff.mp ht).1
      have sT := same_new (o := .tup [.int (i : Nat), x2]) nT
      refine ⟨T1, _, rfl, SqT.of upd_same, rfl, _, _, rfl, _, _, rfl, rfl, ?_⟩
      have sx1 := sx.trans sT
      refine ⟨_, rfl, _, rfl, .ref a, x2, c, t, rfl, hv0.same sx1, dt.same sx1, _, rfl, ?_⟩
      cases hk : c.there t with
      | false =>
        refine iteT ⟨_, rfl, by decide, _, rfl, .inr ⟨_, rfl, log_small (by omega), _, rfl, ?_, ?_⟩⟩
        · rw [str_empty']
          exact nth_fit (w := "out ") (by decide +kernel) (by omega)
        · rw [str_empty']
          exact ⟨by show 1 ≤ 1000; decide, raised (z := nth "out " i) T.x_KindError (nth_small (by decide +kernel) (by omega)) fun d H3 s3 e3 => qk _ (.inr ⟨allR, .inl ⟨i, t, rfl, ht, by rw [hk]; decide, good⟩⟩) d H3 (sx1.trans s3) e3⟩
      | true =>
        refine iteF ⟨_, _, rfl, sx1, fun j f hj hf => ?_⟩
        by_cases c1 : j < i
        · exact good j f c1 hf
        · have : j = i := by omega
          subst this
          rw [ht] at hf
          cases hf
          exact hk
    rintro σ H2 ⟨y6, y7, rfl, s2, good⟩
    have allT : ∀ s ∈ c.outs, c.there s = true := fun s hs => by
      obtain ⟨j, hj⟩ := List.getElem?_of_mem hs
      exact good j s (by rw [hws.len]; exact (List.getElem?_eq_some_iff.mp hj).1) hj
    have none' : FaultIs c none := .inr ⟨allR, .inr ⟨rfl, allT⟩⟩
    have hR2 := s2 _ _ hR
    refine ⟨_, rfl, rw, _, rfl, .inl (SqL.of hR2), _, rfl, RgOk.of_le (by decide) (by rw [hus.len]; omega) (by decide) (by omega), fun g ng => ?_⟩
    rw [rg_vn, hus.len]
    have sg := same_new (o := .lst (vn (List.range c.rows.length))) ng
    have hg : (upd H2 g (.lst (vn (List.range c.rows.length)))) g = some (.lst (vn (List.range c.rows.length))) := upd_same
    generalize (upd H2 g (.lst (vn (List.range c.rows.length)))) = H3 at sg hg ⊢
    have s3 := s2.trans sg
    refine ⟨_, rfl, rw, us, c.rows, rfl, s3 _ _ hR, hus.same s3, right_inr allR, l60, many, fun H4 d s4 hU => ?_⟩
    refine ⟨g, d, usesOf c.rows, List.range c.rows.length, rfl, uses_gf many, List.nodup_range, fun x _ => usesOf_len l60 x, s4 _ _ hg, hU, fun H5 l res s5 nl hl pw mem => ?_⟩
    have s35 := s3.trans (s4.trans s5)
    have mem' : ∀ y, y ∈ res ↔ circ c y := fun y => (mem y).trans (by unfold circ; rw [List.mem_range])
    refine ⟨_, rfl, !(vn res).isEmpty, .inl ⟨_, SqL.of hl, rfl⟩, ?_⟩
    by_cases e : res = []
    · subst e
      refine iteF (q none' (fun y hy => ?_) H5 s35)
      have := (mem' y).mpr hy
      cases this
    · have ne : (!(vn res).isEmpty) = true := by
        cases res with
        | nil => exact absurd rfl e
        | cons x r => rfl
      rw [ne]
      have lres : res.length ≤ 10000 := by
        have := gnd_le (pw.imp fun h => Nat.ne_of_lt h) fun y hy => List.mem_range.mpr ((mem' y).mp hy).1
        rw [List.length_range] at this
        omega
      rw [vn_ints] at hl
      refine iteT ⟨_, rfl, by show 1 ≤ 1000; decide, raisedL T.x_LoopError hl (fun x hx => ?_) (by rw [List.length_map]; exact lres) fun d' H6 s6 e6 => ql none' l d' res H6 (s35.trans s6) (by rw [vn_ints]; exact s6 _ _ hl) pw mem' e e6⟩
      obtain ⟨y, hy, rfl⟩ := List.mem_map.mp hx
      have := ((mem' y).mp hy).1
      rw [Int.natAbs_natCast]
      omega

end K48
namespace K48
open PySem PySem.Spec PyProof.Rows L2 V0
/-! ### drawn cells -/
def EB (e : Cell) : Prop := e.src.length ≤ 5 ∧ (∀ s ∈ e.src, s.sml) ∧ e.table.natAbs ≤ 100000 ∧ e.kept.natAbs ≤ 2 ∧ e.start.natAbs ≤ 2
structure CB (c : Cells) : Prop where
  ins : c.ins ≤ 4
  rl : c.rows.length ≤ 8
  ol : c.outs.length ≤ 4
  rows : ∀ e ∈ c.rows, EB e
  outs : ∀ s ∈ c.outs, s.sml
theorem tup_lst {b D : Addr} {H : Hp} {xs ys : List V} (h1 : H b = some (.tup xs)) (h2 : H D = some (.lst ys)) : b ≠ D := fun e => by
  rw [e, h2] at h1
  cases h1
theorem sces_res {p c D : Addr} {H : Hp} {xs ys : List V} (hD : H D = some (.lst xs)) : ∀ {us : List V} {ss : List Sce}, Dvs (res p c H) us ss → Dvs (res p c (upd H D (.lst ys))) us ss
  | us, [], h => by rw [h.nil_inv]; exact .nil
  | us, s :: ss, h => by
    obtain ⟨v, us', rfl, h1, h2⟩ := h.cons_inv
    obtain ⟨t, rfl, ht⟩ := sce_inv h1
    obtain ⟨n1, n2, ht⟩ := res_some ht
    exact .cons (Dv.sce (by rw [res_eq n1 n2, upd_ne (tup_lst ht hD)]; exact ht)) (sces_res hD h2)
theorem sces_hid {p c R : Addr} {H : Hp} {xs : List V} (hR : H R = some (.lst xs)) : ∀ {us : List V} {ss : List Sce}, Dvs (res p c H) us ss → Dvs (hid R (res p c H)) us ss
  | us, [], h => by rw [h.nil_inv]; exact .nil
  | us, s :: ss, h => by
    obtain ⟨v, us', rfl, h1, h2⟩ := h.cons_inv
    obtain ⟨t, rfl, ht⟩ := sce_inv h1
    obtain ⟨n1, n2, ht'⟩ := res_some ht
    exact .cons (Dv.sce (hid_of (tup_lst ht' hR) ht)) (sces_hid hR h2)
/-- a list of drawn sources, being built -/
def SL (p c D : Addr) (H1 : Hp) (j : Nat) (Hz : Hp) : Prop := Go p c H1 Hz ∧ ∃ us ss, Hz D = some (.lst us) ∧ Dvs (res p c Hz) us ss ∧ ss.length = j ∧ ∀ s ∈ ss, Sce.sml s
theorem SL.start {p c D : Addr} {H1 : Hp} (d : Dr H1 p c) (nD : H1 D = none) : SL p c D H1 0 (upd H1 D (.lst [])) := ⟨Go.mut (Go.refl d) nD, [], [], upd_same, .nil, rfl, fun s h => by cases h⟩
theorem SL.put {p c D t : Addr} {H1 Hz H4 : Hp} {j : Nat} {s : Sce} (h : SL p c D H1 j Hz) (d : Dr H1 p c) (nD : H1 D = none) (g : Go p c Hz H4) (t1 : t ≠ p) (t2 : t ≠ c) (ht : H4 t = some (.tup s.its)) (sm : s.sml) (jl : j ≤ 900) :
    ∃ acc, H4 D = some (.lst acc) ∧ acc.length < sizeLine ∧ SL p c D H1 (j + 1) (upd H4 D (.lst (acc ++ [.ref t]))) := by
  obtain ⟨gz, us, ss, hD, dv, l, sml⟩ := h
  obtain ⟨d1, d2⟩ := d.off nD
  have hD4 := g.get d1 d2 hD
  refine ⟨us, hD4, by rw [dv.len]; exact small1000 (by omega), (gz.trans g).mut nD, us ++ [.ref t], ss ++ [s], upd_same, ?_, by rw [List.length_append, l]; rfl, mem_snoc sml sm⟩
  exact (sces_res hD4 (dv.same g.s)).app (.cons (Dv.sce (by rw [res_eq t1 t2, upd_ne (tup_lst ht hD4)]; exact ht)) .nil)
theorem hidres_up {p c R : Addr} {H : Hp} {o : HO} : Same (hid R (res p c H)) (hid R (res p c (upd H R o))) := fun b u h => by
  obtain ⟨h1, h2⟩ := hid_some h
  obtain ⟨h3, h4, h5⟩ := res_some h2
  exact hid_of h1 (by rw [res_eq h3 h4, upd_ne h1]; exact h5)
theorem shl_min : ∀ sz : Nat, sz < 6 → (1 : Int) * 2 ^ ((1 : Int) * 2 ^ (if (4 : Int) < ((sz : Nat) : Int) then (4 : Int) else ((sz : Nat) : Int)).toNat).toNat = ((2 ^ 2 ^ min sz 4 : Nat) : Int) := by decide
theorem sh_lt : ∀ sz : Nat, sz < 6 → 0 < 2 ^ 2 ^ min sz 4 ∧ 2 ^ 2 ^ min sz 4 ≤ 65536 := by decide
theorem min4 : ∀ sz : Nat, sz < 6 → 0 ≤ (if (4 : Int) < ((sz : Nat) : Int) then (4 : Int) else ((sz : Nat) : Int)) ∧ (if (4 : Int) < ((sz : Nat) : Int) then (4 : Int) else ((sz : Nat) : Int)) ≤ 4 := by decide
theorem pow4 : ∀ sz : Nat, sz < 6 → 0 ≤ (1 : Int) * 2 ^ (if (4 : Int) < ((sz : Nat) : Int) then (4 : Int) else ((sz : Nat) : Int)).toNat ∧ (1 : Int) * 2 ^ (if (4 : Int) < ((sz : Nat) : Int) then (4 : Int) else ((sz : Nat) : Int)).toNat ≤ 16 := by decide
def sp__law_cells (K : PySem.W.Frag) : Sp := fun vs H Q _ => ∃ (p c : Addr), vs = [.ref p] ∧ Dr H p c ∧ ∀ H' t cs, Go p c H H' → Dv (res p c H') (.ref t) cs → CB cs → Q (.ref t) H'
theorem ok__law_cells {P : Program} {w : World} {K : PySem.W.Frag} {mg : Str → Option Value} {base : Heap} {C_KindError fI_KindError : Addr} {fd_KindError : FuncData} {C_LoopError fI_LoopError : Addr} {fd_LoopError : FuncData} {B_ : Addr} {mc_ : Value} {tk_MOST_SOURCES : Tok} {f f_law_draw f_law_source f_law_pick : Addr} {fd fd_law_draw fd_law_source fd_law_pick : FuncData} (F : Fun K "_law_cells" "_law_cells" s__law_cells f fd) (T : Txt K mg C_KindError fI_KindError fd_KindError C_LoopError fI_LoopError fd_LoopError B_ mc_ tk_MOST_SOURCES)
    (G__law_draw : FnOk P w K mg base CX0 1 f_law_draw fd_law_draw ["state", "many"] (sp__law_draw K)) (D__law_draw : Def K mg "_law_draw" f_law_draw fd_law_draw ["state", "many"])
    (G__law_source : FnOk P w K mg base CX0 3 f_law_source fd_law_source ["state", "ins", "many", "wild"] (sp__law_source K)) (D__law_source : Def K mg "_law_source" f_law_source fd_law_source ["state", "ins", "many", "wild"])
    (G__law_pick : FnOk P w K mg base CX0 2 f_law_pick fd_law_pick ["state", "row"] (sp__law_pick K)) (D__law_pick : Def K mg "_law_pick" f_law_pick fd_law_pick ["state", "row"]) :
    FnOk P w K mg base CX0 4 f fd ["state"] (sp__law_cells K) := by
  refine F.ok sc_law_cells (fun vs H Q E h => ?_) (fun cdv A outer s0 H vs Q E hr h => ?_)
  · obtain ⟨p, c, rfl, _⟩ := h
    rfl
  · obtain ⟨p, c, rfl, d0, q⟩ := h
    refine ⟨_, (pss_cons (ps_set (i := 1) sc_law_cells.nd rfl (.inr rfl) (pe_call G__law_draw (hr.mono (by omega)) (by rfl) D__law_draw.m D__law_draw.k D__law_draw.b .nil pass0 (pa_cons (pv 0) (pa_cons pe_int pa_nil))))
      (pss_cons (ps_set (i := 2) sc_law_cells.nd rfl (.inr rfl) (pe_call G__law_draw (hr.mono (by omega)) (by rfl) D__law_draw.m D__law_draw.k D__law_draw.b .nil pass0 (pa_cons (pv 0) (pa_cons pe_int pa_nil))))
      (pss_cons (ps_set (i := 3) sc_law_cells.nd rfl (.inr rfl) (pe_cmpR op_eq (pe_call G__law_draw (hr.mono (by omega)) (by rfl) D__law_draw.m D__law_draw.k D__law_draw.b .nil pass0 (pa_cons (pv 0) (pa_cons pe_int pa_nil))) pe_int (nomark _)))
      (pss_cons (ps_set (i := 4) sc_law_cells.nd rfl (.inl rfl) (pe_call G__law_draw (hr.mono (by omega)) (by rfl) D__law_draw.m D__law_draw.k D__law_draw.b .nil pass0 (pa_cons (pv 0) (pa_cons pe_int pa_nil))))
      (pss_cons (ps_set (i := 5) sc_law_cells.nd rfl (.inl rfl) (pe_lst pa_nil))
      (pss_cons (ps_for PassesOwn.never rfl (pi_range1 rfl T.m_range (pa_cons (pv 2) pa_nil)) (pg_name (i := 6) sc_law_cells.nd rfl (Or.inl rfl)) (C8.pss_cut (ps_set (i := 7) sc_law_cells.nd rfl (.inl rfl) (pe_ifExp (pt_val (pv 3)) (pe_call G__law_draw (hr.mono (by omega)) (by rfl) D__law_draw.m D__law_draw.k D__law_draw.b .nil pass0 (pa_cons (pv 0) (pa_cons pe_int pa_nil))) (pe_call G__law_draw (hr.mono (by omega)) (by rfl) D__law_draw.m D__law_draw.k D__law_draw.b .nil pass0 (pa_cons (pv 0) (pa_cons pe_int pa_nil)))))
      (C8.pss_cut (ps_set (i := 8) sc_law_cells.nd rfl (.inr rfl) (pe_ifExp (pt_cmpR op_eq (pv 4) pe_int (nomark _)) (pv 2) (pv 6)))
      (pss_cons (ps_setLc (i := 9) (own := [("j", 14)]) (g := gName 14) (tt := tYes) rfl sc_law_cells.nd rfl rfl (sw_true rfl rfl rfl (by decide +kernel)) (pi_range1 rfl T.m_range (pa_cons (pv 7) pa_nil)) (blkOk_by (N := N__law_cells) (sc := defScope s__law_cells) (by decide +kernel)) (fun _ _ _ _ _ => (pg_name (i := 14) sc_law_cells.nd rfl (Or.inl rfl))) (fun _ _ _ _ _ => pts_nil) (fun _ _ _ _ _ => (pe_call G__law_source (hr.mono (by omega)) (by rfl) D__law_source.m D__law_source.k D__law_source.b .nil pass0 (pa_cons (pv 0) (pa_cons (pv 1) (pa_cons (pv 8) (pa_cons (pe_and (pv 3) (pe_one (pe_cmpR op_eq (pe_call G__law_draw (hr.mono (by omega)) (by rfl) D__law_draw.m D__law_draw.k D__law_draw.b .nil pass0 (pa_cons (pv 0) (pa_cons pe_int pa_nil))) pe_int (nomark _)))) pa_nil)))))))
      (pss_cons (ps_set (i := 10) sc_law_cells.nd rfl (.inl rfl) (pe_call G__law_draw (hr.mono (by omega)) (by rfl) D__law_draw.m D__law_draw.k D__law_draw.b .nil pass0 (pa_cons (pv 0) (pa_cons pe_int pa_nil))))
      (pss_cons (ps_set (i := 11) sc_law_cells.nd rfl (.inl rfl) (pe_op op_mul (pe_call G__law_draw (hr.mono (by omega)) (by rfl) D__law_draw.m D__law_draw.k D__law_draw.b .nil pass0 (pa_cons (pv 0) (pa_cons pe_int pa_nil))) (pv 10)))
      (pss_cons (ps_set (i := 12) sc_law_cells.nd rfl (.inl rfl) (pe_call G__law_draw (hr.mono (by omega)) (by rfl) D__law_draw.m D__law_draw.k D__law_draw.b .nil pass0 (pa_cons (pv 0) (pa_cons (pe_op op_shl pe_int (pe_op op_shl pe_int (pe_callB (call_min2 (by rfl)) (by rfl) T.m_min (by decide +kernel) (pa_cons (pv 7) (pa_cons pe_int pa_nil))))) pa_nil))))
      (C8.pss_cut (ps_if (PW.pt (pw_and (pt_val (pv 3)) (pw_and1 (pt_cmpR op_eq (pe_call G__law_draw (hr.mono (by omega)) (by rfl) D__law_draw.m D__law_draw.k D__law_draw.b .nil pass0 (pa_cons (pv 0) (pa_cons pe_int pa_nil))) pe_int (nomark _))))) (pss_one (ps_asg (pe_call G__law_pick (hr.mono (by omega)) (by rfl) D__law_pick.m D__law_pick.k D__law_pick.b .nil pass0 (pa_cons (pv 0) (pa_cons (pe_lst (pa_cons (pe_tup (pa_cons (pe_un un_neg pe_int) (pa_cons (pv 10) (pa_cons (pv 11) pa_nil)))) (pa_cons (pe_tup (pa_cons (pv 12) (pa_cons pe_int (pa_cons pe_int pa_nil)))) (pa_cons (pe_tup (pa_cons (pv 12) (pa_cons pe_int (pa_cons pe_int pa_nil)))) (pa_cons (pe_tup (pa_cons (pv 12) (pa_cons pe_int (pa_cons pe_int pa_nil)))) pa_nil))))) pa_nil))) (pg_tup (by rfl) (pgs_cons (pg_name (i := 12) sc_law_cells.nd rfl (Or.inl rfl)) (pgs_cons (pg_name (i := 10) sc_law_cells.nd rfl (Or.inl rfl)) (pgs_cons (pg_name (i := 11) sc_law_cells.nd rfl (Or.inl rfl)) pgs_nil)))))) pss_nil)
      (C8.pss_cut (ps_if (PW.pt (pw_and (pt_val (pv 3)) (pw_and1 (pt_cmpR op_eq (pe_call G__law_draw (hr.mono (by omega)) (by rfl) D__law_draw.m D__law_draw.k D__law_draw.b .nil pass0 (pa_cons (pv 0) (pa_cons pe_int pa_nil))) pe_int (nomark _))))) (pss_one (ps_set (i := 12) sc_law_cells.nd rfl (.inl rfl) (pe_op op_shl pe_int (pe_op op_shl pe_int (pe_callB (call_min2 (by rfl)) (by rfl) T.m_min (by decide +kernel) (pa_cons (pv 7) (pa_cons pe_int pa_nil))))))) pss_nil)
      (C8.pss_cut (ps_if (PW.pt (pw_and (pt_cmpR op_eq (pv 10) pe_int (nomark _)) (pw_and (pt_cmpR op_eq (pv 4) pe_int (nomark _)) (pw_and1 (pt_cmpR op_gt (pv 2) pe_int (nomark _)))))) (pss_one (ps_setLc (i := 9) (own := [("j", 14)]) (g := gName 14) (tt := tYes) rfl sc_law_cells.nd rfl rfl (sw_true rfl rfl rfl (by decide +kernel)) (pi_list (pv 9)) (blkOk_by (N := N__law_cells) (sc := defScope s__law_cells) (by decide +kernel)) (fun _ _ _ _ _ => (pg_name (i := 14) sc_law_cells.nd rfl (Or.inl rfl))) (fun _ _ _ _ _ => pts_nil) (fun _ _ _ _ _ => (pe_call G__law_source (hr.mono (by omega)) (by rfl) D__law_source.m D__law_source.k D__law_source.b .nil pass0 (pa_cons (pv 0) (pa_cons (pv 1) (pa_cons (pv 2) (pa_cons pe_bl pa_nil)))))))) pss_nil)
      (pss_one (ps_expr (pe_bm PySem.F.plainAttrs_list PySem.F.slot_list_append PySem.F.type_list_append mt_append (pv 5) (pa_cons (pe_tup (pa_cons pe_str (pa_cons (pv 9) (pa_cons (pv 12) (pa_cons (pv 10) (pa_cons (pv 11) pa_nil)))))) pa_nil))))))))))))))
      (pss_cons (ps_setLc (i := 13) (own := [("j", 14)]) (g := gName 14) (tt := tYes) rfl sc_law_cells.nd rfl rfl (sw_true rfl rfl rfl (by decide +kernel)) (pi_range1 rfl T.m_range (pa_cons (pe_call G__law_draw (hr.mono (by omega)) (by rfl) D__law_draw.m D__law_draw.k D__law_draw.b .nil pass0 (pa_cons (pv 0) (pa_cons pe_int pa_nil))) pa_nil)) (blkOk_by (N := N__law_cells) (sc := defScope s__law_cells) (by decide +kernel)) (fun _ _ _ _ _ => (pg_name (i := 14) sc_law_cells.nd rfl (Or.inl rfl))) (fun _ _ _ _ _ => pts_nil) (fun _ _ _ _ _ => (pe_call G__law_source (hr.mono (by omega)) (by rfl) D__law_source.m D__law_source.k D__law_source.b .nil pass0 (pa_cons (pv 0) (pa_cons (pv 1) (pa_cons (pv 2) (pa_cons (pe_and (pv 3) (pe_one (pe_cmpR op_eq (pe_call G__law_draw (hr.mono (by omega)) (by rfl) D__law_draw.m D__law_draw.k D__law_draw.b .nil pass0 (pa_cons (pv 0) (pa_cons pe_int pa_nil))) pe_int (nomark _)))) pa_nil)))))))
      (pss_one (ps_ret (pe_tup (pa_cons pe_str (pa_cons (pv 1) (pa_cons (pv 5) (pa_cons (pv 13) pa_nil)))))))))))))), ?_⟩
    refine ⟨_, rfl, p, c, 4, rfl, d0, by decide, by decide, fun H1 i g1 hi => ⟨_, rfl, p, c, 8, rfl, g1.b, by decide, by decide, fun H2 m g2 hm => ⟨_, rfl, p, c, 4, rfl, g2.b, by decide, by decide, fun H3 w g3 hw => ⟨rfl, ?_⟩⟩⟩⟩
    generalize decide (V.int ((w : Nat) : Int) = V.int 0) = wild
    refine ⟨_, rfl, p, c, 3, rfl, g3.b, by decide, by decide, fun H4 deep g4 hdeep => ⟨by show 0 ≤ sizeLine; decide, fun R nR => ?_⟩⟩
    have g04 := g1.trans (g2.trans (g3.trans g4))
    have nR0 := g04.none nR
    obtain ⟨Rp, Rc⟩ := d0.off nR0
    have sR := same_new (o := .lst ([] : List V)) nR
    have hR : (upd H4 R (.lst ([] : List V))) R = some (.lst []) := upd_same
    have g05 := g04.more sR
    generalize (upd H4 R (.lst ([] : List V))) = H5 at hR g05 ⊢
    refine ⟨_, rfl, _, rfl, by omega, by omega, for_range (n := m) (fun k σ Hx => ∃ (y6 y7 y8 y9 y10 y11 y12 : Option V) (ws : List V) (rows : List Cell), σ = [some (.ref p), some (.int (i : Nat)), some (.int (m : Nat)), some (.bl wild), some (.int (deep : Nat)), some (.ref R), y6, y7, y8, y9, y10, y11, y12, none, none] ∧ Go p c H Hx ∧ Hx R = some (.lst ws) ∧ Dvs (hid R (res p c Hx)) ws rows ∧ rows.length = k ∧ ∀ e ∈ rows, EB e) ⟨none, none, none, none, none, none, none, [], [], rfl, g05, hR, .nil, rfl, fun e h => (by cases h)⟩ ?_ ?_⟩
    · rintro k σ Hx hk ⟨y6, y7, y8, y9, y10, y11, y12, ws, rows, rfl, gx, hRx, dws, lr, eb⟩
      -- size
      refine ⟨fun σ Hy => ∃ sz : Nat, σ = [some (.ref p), some (.int (i : Nat)), some (.int (m : Nat)), some (.bl wild), some (.int (deep : Nat)), some (.ref R), some (.int ((0 : Int) + (k : Nat))), some (.int (sz : Nat)), y8, y9, y10, y11, y12, none, none] ∧ Go p c Hx Hy ∧ sz < 6, ?_, ?_⟩
      · refine ⟨_, rfl, _, rfl, ?_⟩
        cases wild with
        | true => exact iteT ⟨_, rfl, p, c, 6, rfl, gx.b, by decide, by decide, fun H6 sz g6 hs => ⟨sz, rfl, g6, hs⟩⟩
        | false => exact iteF ⟨_, rfl, p, c, 5, rfl, gx.b, by decide, by decide, fun H6 sz g6 hs => ⟨sz, rfl, g6, by omega⟩⟩
      rintro σ H6 ⟨sz, rfl, g6, hsz⟩
      -- reach
      refine ⟨fun σ Hy => ∃ rc : Nat, σ = [some (.ref p), some (.int (i : Nat)), some (.int (m : Nat)), some (.bl wild), some (.int (deep : Nat)), some (.ref R), some (.int ((0 : Int) + (k : Nat))), some (.int (sz : Nat)), some (.int (rc : Nat)), y9, y10, y11, y12, none, none] ∧ H6 = Hy ∧ rc ≤ 20, ?_, ?_⟩
      · refine ⟨_, rfl, rfl, _, rfl, ?_⟩
        by_cases c0 : deep = 0
        · rw [show decide (V.int ((deep : Nat) : Int) = V.int 0) = true from decide_eq_true (by rw [c0]; rfl)]
          exact iteT ⟨_, rfl, m, rfl, rfl, by omega⟩
        · rw [show decide (V.int ((deep : Nat) : Int) = V.int 0) = false from decide_eq_false (fun e => c0 (Int.ofNat.inj (V.int.inj e)))]
          refine iteF ⟨_, rfl, k, ?_, rfl, by omega⟩
          rw [Int.zero_add]
          rfl
      rintro σ _ ⟨rc, rfl, rfl, hrc⟩
      have d6 := g6.b
      -- sources
      refine ⟨_, rfl, _, rfl, by omega, by omega, fun D nD => lc_range (n := sz) (SL p c D H6) (SL.start d6 nD) ?_ ?_⟩
      · rintro j Hz hj hz
        have dz := hz.1.b
        refine ⟨rfl, _, rfl, _, rfl, _, rfl, _, rfl, _, rfl, ?_⟩
        cases wild with
        | true => exact iteT ⟨_, rfl, p, c, 4, rfl, dz, by decide, by decide, fun H7 w2 g7 hw2 => ⟨rfl, p, c, i, rc, _, rfl, g7.b, by omega, hrc, fun H8 t s g8 t1 t2 ht sm => hz.put d6 nD (g7.trans g8) t1 t2 ht sm (by omega)⟩⟩
        | false => exact iteF ⟨p, c, i, rc, false, rfl, dz, by omega, hrc, fun H8 t s g8 t1 t2 ht sm => hz.put d6 nD g8 t1 t2 ht sm (by omega)⟩
      rintro H7 ⟨g7, us, ss, hD, dus, lss, sml⟩
      obtain ⟨Dp, Dc⟩ := d6.off nD
      have gx6 := gx.trans g6
      have nD0 := gx6.none nD
      have hRx6 := g6.get Rp Rc hRx
      have DR : D ≠ R := (ne_of_none hRx6 nD).symm
      -- kept, start, table
      refine ⟨_, rfl, p, c, 2, rfl, g7.b, by decide, by decide, fun H8 kp g8 hkp => ⟨_, rfl, p, c, 2, rfl, g8.b, by decide, by decide, fun H9 st g9 hst => ⟨_, rfl, _, _, rfl, rfl, .inl ⟨by omega, by omega⟩, ?_⟩⟩⟩
      obtain ⟨sv, esv, hsv⟩ : ∃ sv : Nat, ((st : Nat) : Int) * ((kp : Nat) : Int) = ((sv : Nat) : Int) ∧ sv ≤ 1 := ⟨st * kp, (Int.natCast_mul ..).symm, by
        have := Nat.mul_le_mul (show st ≤ 1 by omega) (show kp ≤ 1 by omega)
        omega⟩
      simp only [esv]
      obtain ⟨m0, m4⟩ := min4 sz hsz
      obtain ⟨q0, q16⟩ := pow4 sz hsz
      obtain ⟨n0, n16⟩ := sh_lt sz hsz
      have eN := shl_min sz hsz
      refine ⟨_, rfl, _, rfl, _, _, rfl, _, _, rfl, rfl, ⟨m0, by omega, by decide⟩, _, _, rfl, rfl, ⟨q0, by omega, by decide⟩, p, c, 2 ^ 2 ^ min sz 4, congrArg (fun z => [V.ref p, .int z]) eN, g9.b, n0, by omega, fun H10 tb g10 htb => ?_⟩
      have g710 := g8.trans (g9.trans g10)
      have ht0 : (((tb : Nat) : Int)).natAbs ≤ 70000 := by omega
      -- wild values
      refine ⟨fun σ Hy => ∃ tI kI sI : Int, σ = [some (.ref p), some (.int (i : Nat)), some (.int (m : Nat)), some (.bl wild), some (.int (deep : Nat)), some (.ref R), some (.int ((0 : Int) + (k : Nat))), some (.int (sz : Nat)), some (.int (rc : Nat)), some (.ref D), some (.int kI), some (.int sI), some (.int tI), none, none] ∧ Go p c H7 Hy ∧ tI.natAbs ≤ 70000 ∧ kI.natAbs ≤ 2 ∧ sI.natAbs ≤ 2, ?_, ?_⟩
      · refine ⟨_, rfl, _, rfl, ?_⟩
        cases wild with
        | false => exact iteF (iteF ⟨_, _, _, rfl, g710, ht0, by omega, by omega⟩)
        | true =>
          refine iteT ⟨_, rfl, p, c, 4, rfl, g10.b, by decide, by decide, fun H11 v g11 hv => ⟨rfl, _, rfl, ?_⟩⟩
          by_cases v0 : v = 0
          rotate_left
          · rw [show decide (V.int ((v : Nat) : Int) = V.int 0) = false from decide_eq_false (fun e => v0 (Int.ofNat.inj (V.int.inj e)))]
            exact iteF ⟨_, _, _, rfl, g710.trans g11, ht0, by omega, by omega⟩
          rw [show decide (V.int ((v : Nat) : Int) = V.int 0) = true from decide_eq_true (by rw [v0]; rfl)]
          refine iteT ⟨_, rfl, _, rfl, _, rfl, _, rfl, by show 3 ≤ sizeLine; decide, fun t1 n1 => ⟨_, rfl, by show 3 ≤ sizeLine; decide, fun t2 n2 => ⟨_, rfl, by show 3 ≤ sizeLine; decide, fun t3 n3 => ⟨_, rfl, by show 3 ≤ sizeLine; decide, fun t4 n4 => ⟨by show 4 ≤ sizeLine; decide, fun L nL => ?_⟩⟩⟩⟩⟩
          have a1 := same_new (o := .tup [V.int (-1), .int ((kp : Nat) : Int), .int ((sv : Nat) : Int)]) n1
          have a2 := same_new (o := .tup [V.int ((tb : Nat) : Int), .int 2, .int 0]) n2
          have a3 := same_new (o := .tup [V.int ((tb : Nat) : Int), .int 0, .int 1]) n3
          have a4 := same_new (o := .tup [V.int ((tb : Nat) : Int), .int 1, .int 2]) n4
          have aL := same_new (o := .lst [V.ref t1, .ref t2, .ref t3, .ref t4]) nL
          have a14 := a1.trans (a2.trans (a3.trans a4))
          have g11' := (g710.trans g11).more (a14.trans aL)
          have d11 := g11.b.same (a14.trans aL)
          obtain ⟨Lp, Lc⟩ := (g11.b.same a14).off nL
          refine ⟨p, c, L, _, rfl, d11, Lp, Lc, upd_same, by show 0 < 4; decide, by show 4 ≤ 1000; decide, fun H12 v g12 hv => ?_⟩
          obtain ⟨t, x, y, z, rfl, ht, b1, b2, b3⟩ : ∃ (t : Addr) (x y z : Int), v = .ref t ∧ H12 t = some (.tup [.int x, .int y, .int z]) ∧ x.natAbs ≤ 70000 ∧ y.natAbs ≤ 2 ∧ z.natAbs ≤ 2 := by
            have g : ∀ {t : Addr} {xs : List V} {Hz : Hp}, Dr Hz p c → Go p c Hz H12 → Hz t = some (.tup xs) → H12 t = some (.tup xs) := fun {t xs Hz} dz gz h => by
              obtain ⟨_, cs, zz, hp, hc, _⟩ := dz
              exact gz.get (tup_lst h hp) (tup_lst h hc) h
            have gg := fun {t : Addr} {xs : List V} => g (t := t) (xs := xs) d11 g12
            simp only [List.mem_cons, List.not_mem_nil, or_false] at hv
            rcases hv with rfl | rfl | rfl | rfl
            · exact ⟨t1, _, _, _, rfl, gg ((a2.trans (a3.trans (a4.trans aL))) _ _ upd_same), by decide, by omega, by omega⟩
            · exact ⟨t2, _, _, _, rfl, gg ((a3.trans (a4.trans aL)) _ _ upd_same), ht0, by decide, by decide⟩
            · exact ⟨t3, _, _, _, rfl, gg ((a4.trans aL) _ _ upd_same), ht0, by decide, by decide⟩
            · exact ⟨t4, _, _, _, rfl, gg (aL _ _ upd_same), ht0, by decide, by decide⟩
          exact ⟨t, _, rfl, SqT.of ht, rfl, _, _, rfl, _, _, rfl, _, _, rfl, rfl, x, y, z, rfl, g11'.trans g12, b1, b2, b3⟩
      clear htb ht0 g710 g10 g9 g8
      rintro σ H8' ⟨tI, kI, sI, rfl, g8', b1, b2, b3⟩
      -- a wild table
      refine ⟨fun σ Hy => ∃ tI : Int, σ = [some (.ref p), some (.int (i : Nat)), some (.int (m : Nat)), some (.bl wild), some (.int (deep : Nat)), some (.ref R), some (.int ((0 : Int) + (k : Nat))), some (.int (sz : Nat)), some (.int (rc : Nat)), some (.ref D), some (.int kI), some (.int sI), some (.int tI), none, none] ∧ Go p c H7 Hy ∧ tI.natAbs ≤ 70000, ?_, ?_⟩
      · refine ⟨_, rfl, _, rfl, ?_⟩
        cases wild with
        | false => exact iteF (iteF ⟨_, rfl, g8', b1⟩)
        | true =>
          refine iteT ⟨_, rfl, p, c, 6, rfl, g8'.b, by decide, by decide, fun H11 v g11 hv => ⟨rfl, _, rfl, ?_⟩⟩
          by_cases v0 : v = 0
          · rw [show decide (V.int ((v : Nat) : Int) = V.int 0) = true from decide_eq_true (by rw [v0]; rfl)]
            exact iteT ⟨_, rfl, _, _, rfl, _, _, rfl, rfl, ⟨m0, by omega, by decide⟩, _, _, rfl, rfl, ⟨q0, by omega, by decide⟩, _, rfl, g8'.trans g11, by rw [eN]; omega⟩
          · rw [show decide (V.int ((v : Nat) : Int) = V.int 0) = false from decide_eq_false (fun e => v0 (Int.ofNat.inj (V.int.inj e)))]
            exact iteF ⟨_, rfl, g8'.trans g11, b1⟩
      clear b1 g8' tI
      rintro σ H9' ⟨tI, rfl, g9', b1⟩
      have hD9 := g9'.get Dp Dc hD
      have dus9 := dus.same g9'.s
      -- deep sources
      refine ⟨fun σ Hy => ∃ (S : Addr) (us : List V) (ss : List Sce), σ = [some (.ref p), some (.int (i : Nat)), some (.int (m : Nat)), some (.bl wild), some (.int (deep : Nat)), some (.ref R), some (.int ((0 : Int) + (k : Nat))), some (.int (sz : Nat)), some (.int (rc : Nat)), some (.ref S), some (.int kI), some (.int sI), some (.int tI), none, none] ∧ Go p c H7 Hy ∧ Hy S = some (.lst us) ∧ Dvs (res p c Hy) us ss ∧ ss.length = sz ∧ (∀ s ∈ ss, s.sml) ∧ S ≠ R ∧ S ≠ p ∧ S ≠ c, ?_, ?_⟩
      · have keep : ∃ (S : Addr) (us : List V) (ss : List Sce), ([some (.ref p), some (.int (i : Nat)), some (.int (m : Nat)), some (.bl wild), some (.int (deep : Nat)), some (.ref R), some (.int ((0 : Int) + (k : Nat))), some (.int (sz : Nat)), some (.int (rc : Nat)), some (.ref D), some (.int kI), some (.int sI), some (.int tI), none, none] : L2.St) = [some (.ref p), some (.int (i : Nat)), some (.int (m : Nat)), some (.bl wild), some (.int (deep : Nat)), some (.ref R), some (.int ((0 : Int) + (k : Nat))), some (.int (sz : Nat)), some (.int (rc : Nat)), some (.ref S), some (.int kI), some (.int sI), some (.int tI), none, none] ∧ Go p c H7 H9' ∧ H9' S = some (.lst us) ∧ Dvs (res p c H9') us ss ∧ ss.length = sz ∧ (∀ s ∈ ss, s.sml) ∧ S ≠ R ∧ S ≠ p ∧ S ≠ c := ⟨D, us, ss, rfl, g9', hD9, dus9, lss, sml, DR, Dp, Dc⟩
        refine ⟨_, rfl, rfl, _, rfl, ?_⟩
        by_cases k1 : kI = 1
        rotate_left
        · rw [show decide (V.int kI = V.int 1) = false from decide_eq_false (fun e => k1 (V.int.inj e))]
          exact iteF (iteF keep)
        rw [show decide (V.int kI = V.int 1) = true from decide_eq_true (by rw [k1])]
        refine iteT ⟨_, rfl, rfl, _, rfl, ?_⟩
        by_cases k2 : deep = 1
        rotate_left
        · rw [show decide (V.int ((deep : Nat) : Int) = V.int 1) = false from decide_eq_false (fun e => k2 (Int.ofNat.inj (V.int.inj e)))]
          exact iteF (iteF keep)
        rw [show decide (V.int ((deep : Nat) : Int) = V.int 1) = true from decide_eq_true (by rw [k2]; rfl)]
        refine iteT ⟨_, rfl, _, _, rfl, rfl, _, rfl, ?_⟩
        by_cases k3 : m > 0
        rotate_left
        · rw [decide_eq_false (show ¬ ((m : Nat) : Int) > 0 by omega)]
          exact iteF keep
        rw [decide_eq_true (show ((m : Nat) : Int) > 0 by omega)]
        have d9 := g9'.b
        refine iteT ⟨_, rfl, D, rfl, ⟨_, SqL.of hD9⟩, fun D2 nD2 => lc_list (xs := us) (SL p c D2 H9') (SL.start d9 nD2) (fun j Hz _ h => SqL.of (h.1.get Dp Dc hD9)) ?_ ?_⟩
        · rintro j u Hz hu hz
          have jl := (List.getElem?_eq_some_iff.mp hu).1
          have := dus.len
          exact ⟨rfl, _, rfl, _, rfl, _, rfl, p, c, i, m, false, rfl, hz.1.b, by omega, by omega, fun H8 t s g8 t1 t2 ht sm => hz.put d9 nD2 g8 t1 t2 ht sm (by omega)⟩
        rintro H11 ⟨g11, us2, ss2, hD2, dus2, lss2, sml2⟩
        obtain ⟨Dp2, Dc2⟩ := d9.off nD2
        have hR9 := (g7.trans g9').get Rp Rc hRx6
        refine ⟨D2, us2, ss2, rfl, g9'.trans g11, hD2, dus2, by rw [lss2, dus.len, lss], sml2, (ne_of_none hR9 nD2).symm, Dp2, Dc2⟩
      clear hD9 dus9 dus sml lss DR Dp Dc hD nD0 us ss
      rintro σ H10' ⟨S, us, ss, rfl, g10', hS, dus, lss, sml, SR, Sp, Sc⟩
      have hR10 := (g7.trans g10').get Rp Rc hRx6
      have dws10 : Dvs (hid R (res p c H10')) ws rows := dws.same (hid_mono (g6.trans (g7.trans g10')).s)
      refine ⟨_, rfl, .inl ⟨rfl, _, SqL.of hR10⟩, _, rfl, _, rfl, _, rfl, _, rfl, by show 5 ≤ sizeLine; decide, fun t nt => ?_⟩
      have st' := same_new (o := .tup [V.str "cell", .ref S, .int tI, .int kI, .int sI]) nt
      have ht : (upd H10' t (.tup [V.str "cell", .ref S, .int tI, .int kI, .int sI])) t = some (.tup [V.str "cell", .ref S, .int tI, .int kI, .int sI]) := upd_same
      obtain ⟨tp, tc⟩ := g10'.b.off nt
      have tR : t ≠ R := (ne_of_none hR10 nt).symm
      generalize (upd H10' t (.tup [V.str "cell", .ref S, .int tI, .int kI, .int sI])) = H11 at st' ht ⊢
      have rs := V0.Same.res st' p c
      refine ⟨R, _, _, rfl, rfl, st' _ _ hR10, by rw [dws.len]; exact small1000 (by omega), ?_⟩
      refine ⟨_, _, _, _, _, _, _, ws ++ [.ref t], rows ++ [⟨ss, tI, kI, sI⟩], rfl, (gx6.trans (g7.trans g10')).more st' |>.mut nR0, upd_same, ?_, by rw [List.length_append, lr]; rfl, fun e he => ?_⟩
      · refine ((dws10.same (hid_mono rs)).app (.cons (Dv.cell (us := us) (hid_of tR (by rw [res_eq tp tc]; exact ht)) (hid_of SR (by rw [res_eq Sp Sc]; exact st' _ _ hS)) (sces_hid (st' _ _ hR10) (dus.same rs))) .nil)).same hidres_up
      · rcases List.mem_append.mp he with h | h
        · exact eb e h
        · rw [List.mem_singleton.mp h]
          exact ⟨by show ss.length ≤ 5; omega, sml, by show tI.natAbs ≤ _; omega, b2, b3⟩
    rintro σ H6 ⟨y6, y7, y8, y9, y10, y11, y12, ws, rows, rfl, g6, hR6, dws, lr, eb⟩
    -- outs
    refine ⟨_, rfl, p, c, 4, rfl, g6.b, by decide, by decide, fun H7 n g7 hn => ⟨_, rfl, by omega, by omega, fun D nD => lc_range (n := n) (SL p c D H7) (SL.start g7.b nD) ?_ ?_⟩⟩
    · rintro j Hz hj hz
      have dz := hz.1.b
      refine ⟨rfl, _, rfl, _, rfl, _, rfl, _, rfl, _, rfl, ?_⟩
      cases wild with
      | true => exact iteT ⟨_, rfl, p, c, 3, rfl, dz, by decide, by decide, fun H8 w2 g8 hw2 => ⟨rfl, p, c, i, m, _, rfl, g8.b, by omega, by omega, fun H9 t s g9 t1 t2 ht sm => hz.put g7.b nD (g8.trans g9) t1 t2 ht sm (by omega)⟩⟩
      | false => exact iteF ⟨p, c, i, m, false, rfl, dz, by omega, by omega, fun H9 t s g9 t1 t2 ht sm => hz.put g7.b nD g9 t1 t2 ht sm (by omega)⟩
    rintro H8 ⟨g8, us, ss, hD, dus, lss, sml⟩
    obtain ⟨Dp, Dc⟩ := g7.b.off nD
    refine ⟨_, rfl, _, rfl, _, rfl, by show 4 ≤ sizeLine; decide, fun t nt => ?_⟩
    have st := same_new (o := .tup [V.str "cells", .int ((i : Nat) : Int), .ref R, .ref D]) nt
    obtain ⟨tp, tc⟩ := g8.b.off nt
    have rs := V0.Same.res st p c
    have hR8 := (g7.trans g8).get Rp Rc hR6
    refine q _ t ⟨i, rows, ss⟩ ((g6.trans (g7.trans g8)).more st) (Dv.cells (us := ws) (ws := us) (by rw [res_eq tp tc]; exact upd_same) (by rw [res_eq Rp Rc]; exact st _ _ hR8) (((dws.same (hid_same _ _)).same (g7.trans g8).s).same rs) (by rw [res_eq Dp Dc]; exact st _ _ hD) (dus.same rs)) ⟨by show i ≤ 4; omega, by show rows.length ≤ 8; omega, by show ss.length ≤ 4; omega, eb, sml⟩

end K48
namespace K48
open PySem PySem.Spec PyProof.Rows L2 V0
/-! ### what cells tell, by recursion -/
theorem stp_walk {U : Nat → List Nat} {m x z : Nat} (s : Stp U m x z) : ∃ w : List Nat, w.length = m + 1 ∧ (∀ y ∈ w, Rch U x y) ∧ (w.Nodup ∨ ∃ y, OnC U y) := by
  induction s with
  | zero x => exact ⟨[x], rfl, fun y hy => by rw [List.mem_singleton.mp hy]; exact .rf x, .inl (List.nodup_cons.mpr ⟨by simp, List.nodup_nil⟩)⟩
  | @succ n x y z hy s ih =>
    obtain ⟨w, lw, rw, h⟩ := ih
    refine ⟨x :: w, by rw [List.length_cons, lw], fun v hv => ?_, ?_⟩
    · rcases List.mem_cons.mp hv with rfl | hv
      · exact .rf _
      · exact .to hy (rw v hv)
    · rcases h with nd | h
      · by_cases m : x ∈ w
        · exact .inr ⟨x, y, hy, rw x m⟩
        · exact .inl (List.nodup_cons.mpr ⟨m, nd⟩)
      · exact .inr h
theorem rch_in {U : Nat → List Nat} {N : List Nat} (g : Gf U N) {x y : Nat} (h : Rch U x y) : x ∈ N → y ∈ N := by
  induction h with
  | rf x => exact fun h => h
  | to hy _ ih => exact fun hx => ih (g.dn _ hx _ hy)
theorem stp_few {U : Nat → List Nat} {N : List Nat} (g : Gf U N) (no : ∀ y, ¬ OnC U y) {m x z : Nat} (hx : x ∈ N) (s : Stp U m x z) : m < N.length := by
  obtain ⟨w, lw, rw, h⟩ := stp_walk s
  rcases h with nd | ⟨y, hy⟩
  · have := gnd_le nd fun y hy => rch_in g (rw y hy) hx
    omega
  · exact absurd hy (no y)
/-- no walk of so many steps starts there -/
def Dep (U : Nat → List Nat) (M u : Nat) : Prop := ∀ x, ¬ Stp U M u x
theorem Dep.use {U : Nat → List Nat} {M j u : Nat} (h : Dep U (M + 1) j) (hu : u ∈ U j) : Dep U M u := fun x s => h x (.succ hu s)
theorem Dep.zero {U : Nat → List Nat} {u : Nat} (h : Dep U 0 u) : False := h u (.zero u)
theorem Dep.fix {rows : List Cell} {held bits : List Nat} (inr : ∀ e ∈ rows, ∀ s ∈ e.src, InR rows s) : ∀ (M K j : Nat), Dep (usesOf rows) M j → M ≤ K → lvl rows held bits K j = lvl rows held bits (K + 1) j
  | 0, _, _, h, _ => h.zero.elim
  | M + 1, 0, _, _, l => by omega
  | M + 1, K + 1, j, h, l => by
    cases e : rows[j]? with
    | none =>
      show (match rows[j]? with | none => 0 | some e => _) = (match rows[j]? with | none => 0 | some e => _)
      rw [e]
    | some c =>
      rw [lvl_at e, lvl_at e]
      congr 2
      exact congrArg _ (side_congr (told_congr e (inr c (List.mem_of_getElem? e)) fun u hu => Dep.fix inr M K u (h.use hu) (by omega)))
structure Ctx (c : Cells) (held bits : List Nat) : Prop where
  ok : COk c
  no : ∀ y, ¬ OnC (usesOf c.rows) y
  hl : held.length = c.rows.length
  bl : bits.length = c.ins
  h2 : ∀ x ∈ held, x < 2
  b2 : ∀ x ∈ bits, x < 2
theorem Ctx.dep {c : Cells} {held bits : List Nat} (h : Ctx c held bits) {M j : Nat} (hj : j < c.rows.length) (hM : c.rows.length ≤ M) : Dep (usesOf c.rows) M j := fun x s => by
  have := stp_few (uses_gf h.ok.many) h.no (List.mem_range.mpr hj) s
  rw [List.length_range] at this
  omega
theorem Ctx.fix {c : Cells} {held bits : List Nat} (h : Ctx c held bits) {j : Nat} (hj : j < c.rows.length) : lvl c.rows held bits (c.rows.length + 1 + 1) j = lvl c.rows held bits (c.rows.length + 1) j :=
  (Dep.fix h.ok.inr c.rows.length (c.rows.length + 1) j (h.dep hj (Nat.le_refl _)) (Nat.le_succ _)).symm
theorem Sce.told_lt {rows : List Cell} {held bits : List Nat} {f : Nat → Nat} (h1 : ∀ x ∈ held, x < 2) (h2 : ∀ x ∈ bits, x < 2) (hf : ∀ j, f j < 2) (s : Sce) : s.told rows held bits f < 2 := by
  have g : ∀ {xs : List Nat} {k : Nat}, (∀ x ∈ xs, x < 2) → xs[k]?.getD 0 < 2 := fun {xs k} h => by
    cases e : xs[k]? with
    | none => decide
    | some x => exact h x (List.mem_of_getElem? e)
  cases s with
  | no => exact Nat.zero_lt_two
  | pad i => exact g h2
  | cel i =>
    show (if isFree rows i.toNat = true then f i.toNat else held[i.toNat]?.getD 0) < 2
    split
    · exact hf _
    · exact g h1
theorem side_snoc (f : Sce → Nat) (s : Sce) : ∀ (l : List Sce) (k : Nat), side f (l ++ [s]) k = side f l k + f s * 2 ^ (k + l.length)
  | [], k => by
    show f s * 2 ^ k + 0 = 0 + f s * 2 ^ (k + 0)
    rw [Nat.add_zero, Nat.zero_add, Nat.add_zero]
  | x :: l, k => by
    show f x * 2 ^ k + side f (l ++ [s]) (k + 1) = f x * 2 ^ k + side f l (k + 1) + f s * 2 ^ (k + (l.length + 1))
    rw [side_snoc f s l (k + 1), show k + 1 + l.length = k + (l.length + 1) by omega, Nat.add_assoc]
theorem side_lt {f : Sce → Nat} (hf : ∀ s, f s < 2) : ∀ (l : List Sce), side f l 0 < 2 ^ l.length := fun l => by
  have : ∀ (l : List Sce) (k : Nat), side f l k + 2 ^ k ≤ 2 ^ (k + l.length) := by
    intro l
    induction l with
    | nil => intro k; show 0 + 2 ^ k ≤ 2 ^ (k + 0); rw [Nat.zero_add, Nat.add_zero]; exact Nat.le_refl _
    | cons s l ih =>
      intro k
      have h1 := ih (k + 1)
      have h2 := hf s
      have h3 : f s * 2 ^ k ≤ 1 * 2 ^ k := Nat.mul_le_mul_right _ (by omega)
      show f s * 2 ^ k + side f l (k + 1) + 2 ^ k ≤ 2 ^ (k + (l.length + 1))
      rw [show k + (l.length + 1) = k + 1 + l.length by omega]
      rw [Nat.pow_succ] at h1
      omega
  have := this l 0
  rw [Nat.zero_add] at this
  have e : (2 : Nat) ^ 0 = 1 := rfl
  omega
def spTab (K : PySem.W.Frag) (M : Nat) : Sp := fun vs H Q _ => ∃ (v : V) (h b : Addr) (c : Cells) (held bits : List Nat) (j : Nat) (e : Cell), vs = [v, .int (j : Nat), .ref h, .ref b] ∧ Dv H v c ∧ Ctx c held bits ∧ H h = some (.lst (vn held)) ∧ H b = some (.lst (vn bits)) ∧ c.rows[j]? = some e ∧
      Dep (usesOf c.rows) M j ∧ Q (.int (lvl c.rows held bits (c.rows.length + 1) j : Nat)) H
def spBit (K : PySem.W.Frag) (M : Nat) : Sp := fun vs H Q _ => ∃ (v w : V) (h b : Addr) (c : Cells) (held bits : List Nat) (s : Sce), vs = [v, w, .ref h, .ref b] ∧ Dv H v c ∧ Dv H w s ∧ Ctx c held bits ∧ H h = some (.lst (vn held)) ∧ H b = some (.lst (vn bits)) ∧ c.there s = true ∧
      (∀ u, useOf c.rows s = some u → Dep (usesOf c.rows) M u) ∧ Q (.int (s.told c.rows held bits (lvl c.rows held bits (c.rows.length + 1)) : Nat)) H
def sp__law_table (K : PySem.W.Frag) : Sp := spTab K 12
def sp__law_bit (K : PySem.W.Frag) : Sp := spBit K 12
theorem tb_ind {C_KindError fI_KindError : Addr} {fd_KindError : FuncData} {C_LoopError fI_LoopError : Addr} {fd_LoopError : FuncData} {B_ : Addr} {mc_ : Value} {tk_MOST_SOURCES : Tok} {P : Program} {w : World} {K : PySem.W.Frag} {mg : Str → Option Value} {base : Heap} {f g : Addr} {fd gd : FuncData} (F : Fun K "_law_table" "_law_table" s__law_table f fd) (G : Fun K "_law_bit" "_law_bit" s__law_bit g gd) (T : Txt K mg C_KindError fI_KindError fd_KindError C_LoopError fI_LoopError fd_LoopError B_ mc_ tk_MOST_SOURCES) (D__law_table : Def K mg "_law_table" f fd ["cells", "at", "held", "bits"]) (D__law_bit : Def K mg "_law_bit" g gd ["cells", "source", "held", "bits"]) :
    ∀ M, FnOk P w K mg base CX0 (2 * M) f fd ["cells", "at", "held", "bits"] (spTab K M) ∧ FnOk P w K mg base CX0 (2 * M + 1) g gd ["cells", "source", "held", "bits"] (spBit K M) := by
  intro M
  have bits : ∀ M, FnOk P w K mg base CX0 (2 * M) f fd ["cells", "at", "held", "bits"] (spTab K M) → FnOk P w K mg base CX0 (2 * M + 1) g gd ["cells", "source", "held", "bits"] (spBit K M) := fun M G__law_table => by
    refine G.ok sc_law_bit (fun vs H Q E h => ?_) (fun cdv A outer s0 H vs Q E hr h => ?_)
    · obtain ⟨v, w, h, b, c, held, bits, s, rfl, _⟩ := h
      rfl
    · obtain ⟨v, w', h, b, c, held, bits, s, rfl, hv, hw, cx, hh, hb, thr, low, q⟩ := h
      have hv0 := hv
      obtain ⟨a, rw, oo, us, ws, rfl, ha, hR, hus, hW, hws⟩ := cells_inv hv
      obtain ⟨t, rfl, ht⟩ := sce_inv hw
      have fit : s.fit held bits := there_fit thr cx.hl cx.bl
      refine ⟨_, (pss_cons (ps_if (pt_cmpR op_eq (pe_ix (r := rIxT K) ix_tup (pv 1) pe_int (fun _ _ => rfl)) pe_str (nomark _)) (pss_one (ps_ret pe_int)) pss_nil)
      (pss_cons (ps_if (pt_cmpR op_eq (pe_ix (r := rIxT K) ix_tup (pv 1) pe_int (fun _ _ => rfl)) pe_str (nomark _)) (pss_one (ps_ret (pe_ix (r := rIxL K) ix_list (pv 3) (pe_ix (r := rIxT K) ix_tup (pv 1) pe_int (fun _ _ => rfl)) (fun _ _ => rfl)))) pss_nil)
      (pss_cons (ps_if (pt_cmpR op_eq (pe_ix (r := rIxT K) ix_tup (pe_ix (r := rIxL K) ix_list (pe_ix (r := rIxT K) ix_tup (pv 0) pe_int (fun _ _ => rfl)) (pe_ix (r := rIxT K) ix_tup (pv 1) pe_int (fun _ _ => rfl)) (fun _ _ => rfl)) pe_int (fun _ _ => rfl)) pe_int (nomark _)) (pss_one (ps_ret (pe_ix (r := rIxL K) ix_list (pv 2) (pe_ix (r := rIxT K) ix_tup (pv 1) pe_int (fun _ _ => rfl)) (fun _ _ => rfl)))) pss_nil)
      (pss_one (ps_ret (pe_call G__law_table (hr.mono (by omega)) (by rfl) D__law_table.m D__law_table.k D__law_table.b .nil pass0 (pa_cons (pv 0) (pa_cons (pe_ix (r := rIxT K) ix_tup (pv 1) pe_int (fun _ _ => rfl)) (pa_cons (pv 2) (pa_cons (pv 3) pa_nil)))))))))), ?_⟩
      cases s with
      | no =>
        refine ⟨_, rfl, t, _, 0, _, rfl, rfl, SqT.of ht, atI_nat (j := 0) rfl, rfl, _, rfl, ?_⟩
        rw [dstr, decide_eq_true rfl]
        exact iteT q
      | pad i =>
        refine ⟨_, rfl, t, _, 0, _, rfl, rfl, SqT.of ht, atI_nat (j := 0) rfl, rfl, _, rfl, ?_⟩
        rw [dstr, decide_eq_false st_pn]
        refine iteF ⟨_, rfl, t, _, 0, _, rfl, rfl, SqT.of ht, atI_nat (j := 0) rfl, rfl, _, rfl, ?_⟩
        rw [dstr, decide_eq_true rfl]
        exact iteT ⟨_, rfl, _, rfl, t, _, 1, _, rfl, rfl, SqT.of ht, atI_nat (j := 1) rfl, b, _, _, _, rfl, rfl, SqL.of hb, at_int fit, q⟩
      | cel i =>
        have thr' : 0 ≤ i ∧ i < (c.rows.length : Int) := of_decide_eq_true thr
        obtain ⟨n, rfl⟩ : ∃ n : Nat, i = (n : Int) := ⟨i.toNat, by omega⟩
        have nl : n < c.rows.length := by omega
        have he := List.getElem?_eq_getElem nl
        have em := List.getElem_mem nl
        generalize c.rows[n] = e at he em
        obtain ⟨u, hu, du⟩ := hus.get he
        obtain ⟨a1, sl, ts, rfl, ha1, hsl, hts⟩ := cell_inv du
        have fr : isFree c.rows n = decide (e.kept = 0) := by
          unfold isFree
          rw [he]
          exact decide_eq_decide.mpr ⟨fun h => Option.some.inj h, fun h => congrArg some h⟩
        have tl : Sce.told c.rows held bits (lvl c.rows held bits (c.rows.length + 1)) (.cel (n : Int)) = if e.kept = 0 then lvl c.rows held bits (c.rows.length + 1) n else held[n]?.getD 0 := by
          show (if isFree c.rows (n : Int).toNat = true then _ else _) = _
          rw [Int.toNat_natCast, fr]
          by_cases k0 : e.kept = 0
          · rw [if_pos (decide_eq_true k0), if_pos k0]
          · rw [if_neg (by rw [decide_eq_false k0]; decide), if_neg k0]
        rw [tl] at q
        refine ⟨_, rfl, t, _, 0, _, rfl, rfl, SqT.of ht, atI_nat (j := 0) rfl, rfl, _, rfl, ?_⟩
        rw [dstr, decide_eq_false st_cn]
        refine iteF ⟨_, rfl, t, _, 0, _, rfl, rfl, SqT.of ht, atI_nat (j := 0) rfl, rfl, _, rfl, ?_⟩
        rw [dstr, decide_eq_false st_pc.symm]
        refine iteF ⟨_, rfl, a, _, 2, _, rfl, rfl, SqT.of ha, atI_nat (j := 2) rfl, _, rfl, t, _, 1, _, rfl, rfl, SqT.of ht, atI_nat (j := 1) rfl, rw, _, _, _, rfl, rfl, SqL.of hR, atI_nat hu, a1, _, 3, _, rfl, rfl, SqT.of ha1, atI_nat (j := 3) rfl, rfl, _, rfl, ?_⟩
        rcases cx.ok.kp e em with k0 | k1
        · rw [if_pos k0] at q
          rw [show decide (V.int e.kept = V.int 1) = false from decide_eq_false (fun z => by rw [k0] at z; cases z)]
          have uo : useOf c.rows (.cel (n : Int)) = some n := by
            show (if (c.rows[(n : Int).toNat]?.map Cell.kept) = some 0 then some (n : Int).toNat else none) = _
            rw [Int.toNat_natCast, he]
            exact if_pos (congrArg some k0)
          exact iteF ⟨_, rfl, _, rfl, t, _, 1, _, rfl, rfl, SqT.of ht, atI_nat (j := 1) rfl, _, rfl, _, rfl, .ref a, h, b, c, held, bits, n, e, rfl, hv0, cx, hh, hb, he, low n uo, q⟩
        · rw [if_neg (by rw [k1]; decide)] at q
          rw [show decide (V.int e.kept = V.int 1) = true from decide_eq_true (by rw [k1])]
          have en := List.getElem?_eq_getElem (l := held) (i := n) (by rw [cx.hl]; exact nl)
          rw [en] at q
          exact iteT ⟨_, rfl, _, rfl, t, _, 1, _, rfl, rfl, SqT.of ht, atI_nat (j := 1) rfl, h, _, _, _, rfl, rfl, SqL.of hh, atI_nat (vn_get en), q⟩
  have tabs : ∀ M, FnOk P w K mg base CX0 (2 * M + 1) g gd ["cells", "source", "held", "bits"] (spBit K M) → FnOk P w K mg base CX0 (2 * (M + 1)) f fd ["cells", "at", "held", "bits"] (spTab K (M + 1)) := fun M G__law_bit => by
    refine F.ok (k := 2 * M + 1) sc_law_table (fun vs H Q E h => ?_) (fun cdv A outer s0 H vs Q E hr h => ?_)
    · obtain ⟨v, h, b, c, held, bits, j, e, rfl, _⟩ := h
      rfl
    · obtain ⟨v, h, b, c, held, bits, j, e, rfl, hv, cx, hh, hb, he, low, q⟩ := h
      have hv0 := hv
      have em := List.mem_of_getElem? he
      obtain ⟨a, rw, oo, us, ws, rfl, ha, hR, hus, hW, hws⟩ := cells_inv hv
      obtain ⟨u, hu, du⟩ := hus.get he
      obtain ⟨a1, sl, ts, rfl, ha1, hsl, hts⟩ := cell_inv du
      have few := cx.ok.few e em
      have fl := fun s : Sce => Sce.told_lt (rows := c.rows) (f := lvl c.rows held bits (c.rows.length + 1)) cx.h2 cx.b2 (fun j => lvl_lt _ j) s
      refine ⟨_, (pss_cons (ps_set (i := 4) sc_law_table.nd rfl (.inl rfl) pe_int)
      (pss_cons (ps_for PassesOwn.never rfl (pi_range1 rfl T.m_range (pa_cons (pe_callB call_len_seq (by rfl) T.m_len (by decide +kernel) (pa_cons (pe_ix (r := rIxT K) ix_tup (pe_ix (r := rIxL K) ix_list (pe_ix (r := rIxT K) ix_tup (pv 0) pe_int (fun _ _ => rfl)) (pv 1) (fun _ _ => rfl)) pe_int (fun _ _ => rfl)) pa_nil)) pa_nil)) (pg_name (i := 5) sc_law_table.nd rfl (Or.inl rfl)) (pss_one (ps_set (i := 4) sc_law_table.nd rfl (.inl rfl) (pe_op op_add (pv 4) (pe_op op_shl (pe_call G__law_bit (hr.mono (by omega)) (by rfl) D__law_bit.m D__law_bit.k D__law_bit.b .nil pass0 (pa_cons (pv 0) (pa_cons (pe_ix (r := rIxL K) ix_list (pe_ix (r := rIxT K) ix_tup (pe_ix (r := rIxL K) ix_list (pe_ix (r := rIxT K) ix_tup (pv 0) pe_int (fun _ _ => rfl)) (pv 1) (fun _ _ => rfl)) pe_int (fun _ _ => rfl)) (pv 5) (fun _ _ => rfl)) (pa_cons (pv 2) (pa_cons (pv 3) pa_nil))))) (pv 5))))))
      (pss_one (ps_ret (pe_op op_and (pe_op op_shr (pe_ix (r := rIxT K) ix_tup (pe_ix (r := rIxL K) ix_list (pe_ix (r := rIxT K) ix_tup (pv 0) pe_int (fun _ _ => rfl)) (pv 1) (fun _ _ => rfl)) pe_int (fun _ _ => rfl)) (pv 4)) pe_int))))), ?_⟩
      refine ⟨_, rfl, a, _, 2, _, rfl, rfl, SqT.of ha, atI_nat (j := 2) rfl, _, rfl, rw, _, _, _, rfl, rfl, SqL.of hR, atI_nat hu, a1, _, 1, _, rfl, rfl, SqT.of ha1, atI_nat (j := 1) rfl, sl, _, rfl, .inl (SqL.of hsl), ?_⟩
      rw [hts.len]
      refine ⟨_, rfl, by omega, by omega, for_range (n := e.src.length) (fun i σ Hx => ∃ y5 : Option V, σ = [some (.ref a), some (.int (j : Nat)), some (.ref h), some (.ref b), some (.int ((side (Sce.told c.rows held bits (lvl c.rows held bits (c.rows.length + 1))) (e.src.take i) 0 : Nat) : Int)), y5] ∧ Hx = H) ⟨none, rfl, rfl⟩ ?_ ?_⟩
      · rintro i σ Hx hi ⟨y5, rfl, rfl⟩
        rw [Int.zero_add]
        have hs := List.getElem?_eq_getElem hi
        have sm := List.getElem_mem hi
        generalize e.src[i] = s at hs sm
        obtain ⟨x, hx, dx⟩ := hts.get hs
        refine ⟨_, rfl, _, rfl, _, rfl, a, _, 2, _, rfl, rfl, SqT.of ha, atI_nat (j := 2) rfl, _, rfl, rw, _, _, _, rfl, rfl, SqL.of hR, atI_nat hu, a1, _, 1, _, rfl, rfl, SqT.of ha1, atI_nat (j := 1) rfl, _, rfl, sl, _, _, _, rfl, rfl, SqL.of hsl, atI_nat hx, _, rfl, _, rfl, .ref a, x, h, b, c, held, bits, s, rfl, hv0, dx, cx, hh, hb, cx.ok.thr e em s sm, fun u' hu' => ?_, ?_⟩
        · exact low.use (by rw [usesOf_at he]; exact List.mem_filterMap.mpr ⟨s, sm, hu'⟩)
        · have lt := fl s
          refine ⟨_, rfl, _, _, rfl, rfl, ⟨Int.natCast_nonneg _, by omega, ?_⟩, _, _, rfl, rfl, some (.int (i : Nat)), ?_, rfl⟩
          · rw [Int.natAbs_natCast]
            exact Nat.lt_trans lt (by decide)
          · rw [take_snoc hs, side_snoc, List.length_take, Nat.min_eq_left (by omega), Nat.zero_add]
            show _ = [_, _, _, _, some (V.int ((_ + _ * 2 ^ i : Nat) : Int)), _]
            rw [Int.natCast_add, ← shl_nat]
            rfl
      rintro σ Hx ⟨y5, rfl, rfl⟩
      rw [List.take_length]
      obtain ⟨tb, etb⟩ : ∃ tb : Nat, e.table = (tb : Int) := ⟨e.table.toNat, by have := cx.ok.t0 e em; omega⟩
      rw [← cx.fix (List.getElem?_eq_some_iff.mp he).1, lvl_at he, etb, Int.toNat_natCast] at q
      refine ⟨_, rfl, a, _, 2, _, rfl, rfl, SqT.of ha, atI_nat (j := 2) rfl, _, rfl, rw, _, _, _, rfl, rfl, SqL.of hR, atI_nat hu, a1, _, 2, _, rfl, rfl, SqT.of ha1, atI_nat (j := 2) rfl, _, rfl, _, _, rfl, rfl, Int.natCast_nonneg _, _, _, rfl, rfl, ?_⟩
      rw [etb, shr_nat]
      show Q (V.int (Builtin.bitAnd (((tb / 2 ^ side (Sce.told c.rows held bits (lvl c.rows held bits (c.rows.length + 1))) e.src 0 : Nat)) : Int) 1)) Hx
      rw [band_one]
      exact q
  induction M with
  | zero =>
    have t0 : FnOk P w K mg base CX0 (2 * 0) f fd ["cells", "at", "held", "bits"] (spTab K 0) := by
      refine ⟨fun vs H Q E h => ?_, fun A outer s H args us vs Q E hr he hb hv h => ?_⟩
      · obtain ⟨v, h, b, c, held, bits, j, e, rfl, _⟩ := h
        rfl
      · obtain ⟨_, _, _, _, _, _, _, _, _, _, _, _, _, _, dep, _⟩ := h
        exact dep.zero.elim
    exact ⟨t0, bits 0 t0⟩
  | succ M ih =>
    have t := tabs M ih.2
    exact ⟨t, bits (M + 1) t⟩
theorem tb_pair {C_KindError fI_KindError : Addr} {fd_KindError : FuncData} {C_LoopError fI_LoopError : Addr} {fd_LoopError : FuncData} {B_ : Addr} {mc_ : Value} {tk_MOST_SOURCES : Tok} {P : Program} {w : World} {K : PySem.W.Frag} {mg : Str → Option Value} {base : Heap} {f g : Addr} {fd gd : FuncData} (F : Fun K "_law_table" "_law_table" s__law_table f fd) (G : Fun K "_law_bit" "_law_bit" s__law_bit g gd) (T : Txt K mg C_KindError fI_KindError fd_KindError C_LoopError fI_LoopError fd_LoopError B_ mc_ tk_MOST_SOURCES) (D__law_table : Def K mg "_law_table" f fd ["cells", "at", "held", "bits"]) (D__law_bit : Def K mg "_law_bit" g gd ["cells", "source", "held", "bits"]) :
    FnOk P w K mg base CX0 24 f fd ["cells", "at", "held", "bits"] (sp__law_table K) ∧ FnOk P w K mg base CX0 25 g gd ["cells", "source", "held", "bits"] (sp__law_bit K) := tb_ind F G T D__law_table D__law_bit 12

end K48
namespace K48
open PySem PySem.Spec PyProof.Rows L2 V0
/-! ### circles, found anew -/
def uses0 (rows : List Cell) (j : Nat) : List Nat := if isFree rows j = true then usesOf rows j else []
theorem free_at {rows : List Cell} {k : Nat} {e : Cell} (he : rows[k]? = some e) : isFree rows k = decide (e.kept = 0) := by
  unfold isFree
  rw [he]
  exact decide_eq_decide.mpr ⟨fun h => Option.some.inj h, fun h => congrArg some h⟩
theorem uses0_no {rows : List Cell} {k : Nat} {e : Cell} (he : rows[k]? = some e) (k0 : ¬ e.kept = 0) : uses0 rows k = [] := by
  unfold uses0
  rw [free_at he, if_neg (by rw [decide_eq_false k0]; decide)]
theorem uses0_yes {rows : List Cell} {k : Nat} {e : Cell} (he : rows[k]? = some e) (k0 : e.kept = 0) : uses0 rows k = usesOf rows k := by
  unfold uses0
  rw [free_at he, if_pos (decide_eq_true k0)]
theorem uses0_sub {rows : List Cell} {j x : Nat} (h : x ∈ uses0 rows j) : x ∈ usesOf rows j := by
  unfold uses0 at h
  split at h
  · exact h
  · cases h
theorem uses0_lt {rows : List Cell} {j x : Nat} (h : x ∈ uses0 rows j) : x < rows.length := usesOf_lt (uses0_sub h)
theorem uses0_len {rows : List Cell} (few : ∀ e ∈ rows, e.src.length ≤ 20) (j : Nat) : (uses0 rows j).length ≤ 20 := by
  unfold uses0
  split
  · exact usesOf_len few j
  · exact Nat.zero_le _
theorem uses0_gf {rows : List Cell} (h : rows.length ≤ 1000) : Gf (uses0 rows) (List.range rows.length) := ⟨fun x _ u hu => List.mem_range.mpr (uses0_lt hu), by rw [List.length_range]; exact h⟩
theorem used_free {rows : List Cell} {j x : Nat} (h : x ∈ usesOf rows j) : isFree rows x = true := by
  unfold usesOf at h
  obtain ⟨s, _, hs⟩ := List.mem_filterMap.mp h
  exact useOf_free hs
theorem Rch.to0 {rows : List Cell} {x y : Nat} (h : Rch (usesOf rows) x y) : isFree rows x = true → Rch (uses0 rows) x y := by
  induction h with
  | rf x => exact fun _ => .rf x
  | to hy _ ih =>
    intro hx
    exact .to (by unfold uses0; rw [if_pos hx]; exact hy) (ih (used_free hy))
theorem Rch.end_free {rows : List Cell} {x y : Nat} (h : Rch (usesOf rows) x y) : isFree rows x = true → isFree rows y = true := by
  induction h with
  | rf x => exact fun h => h
  | to hy _ ih => exact fun _ => ih (used_free hy)
theorem Rch.of0 {rows : List Cell} {x y : Nat} (h : Rch (uses0 rows) x y) : Rch (usesOf rows) x y := by
  induction h with
  | rf x => exact .rf x
  | to hy _ ih => exact .to (uses0_sub hy) ih
theorem uses0_onc {rows : List Cell} (y : Nat) : OnC (uses0 rows) y ↔ OnC (usesOf rows) y := by
  constructor
  · rintro ⟨z, hz, a⟩
    exact ⟨z, uses0_sub hz, a.of0⟩
  · rintro ⟨z, hz, a⟩
    have fz := used_free hz
    have fy := a.end_free fz
    exact ⟨z, by unfold uses0; rw [if_pos fy]; exact hz, a.to0 fz⟩
theorem Dvs.put {α : Type} [DecidableEq α] [Dm α] {H : Hp} {v : V} {x : α} (d : Dv H v x) : ∀ {us : List V} {xs : List α} (k : Nat), Dvs H us xs → Dvs H (us.set k v) (xs.set k x)
  | us, [], k, h => by
    rw [h.nil_inv]
    exact .nil
  | us, y :: ys, k, h => by
    obtain ⟨w, us', rfl, h1, h2⟩ := h.cons_inv
    cases k with
    | zero => exact .cons d h2
    | succ k => exact .cons h1 (Dvs.put d k h2)
theorem vn_cat' (xs ys : List Nat) : vn xs ++ vn ys = vn (xs ++ ys) := (List.map_append ..).symm
theorem asc_range (n : Nat) : (List.range n).Pairwise (· < ·) := List.pairwise_lt_range
/-- what the rows hold in turn t, when the first k have been turned -/
structure CS (rows : List Cell) (t k : Nat) (rss : List (List Nat)) : Prop where
  len : rss.length = rows.length
  ok : ∀ j r, rss[j]? = some r → CI (uses0 rows) (t + 1) j r ∧ r.length ≤ 20 ∧ ∀ x ∈ r, x < rows.length
  more : ∀ j, j < k → ∀ r, rss[j]? = some r → CI (uses0 rows) (t + 2) j r
theorem CS.next {rows : List Cell} {t : Nat} {rss : List (List Nat)} (h : CS rows t rows.length rss) : CS rows (t + 1) 0 rss :=
  ⟨h.len, fun j r e => ⟨h.more j (by have := (List.getElem?_eq_some_iff.mp e).1; rw [h.len] at this; exact this) r e, (h.ok j r e).2⟩, fun j z => absurd z (Nat.not_lt_zero _)⟩
/-- the row k while it takes in what the first i of r hold -/
structure CT (rows : List Cell) (t k : Nat) (r : List Nat) (i : Nat) (rss : List (List Nat)) : Prop where
  cs : CS rows t k rss
  kl : k < rows.length
  n20 : rows.length ≤ 20
  r0 : CI (uses0 rows) (t + 1) k r
  rl : ∀ x ∈ r, x < rows.length
  sup : ∀ rk, rss[k]? = some rk → ∀ x ∈ r, x ∈ rk
  cov : ∀ i', i' < i → ∀ o, r[i']? = some o → ∀ rk, rss[k]? = some rk → ∀ m x, m < t + 1 → Stp (uses0 rows) (m + 1) o x → x ∈ rk
theorem CS.start {rows : List Cell} {t k : Nat} {rss : List (List Nat)} (h : CS rows t k rss) (n20 : rows.length ≤ 20) {r : List Nat} (hr : rss[k]? = some r) : CT rows t k r 0 rss :=
  ⟨h, by have := (List.getElem?_eq_some_iff.mp hr).1; rw [h.len] at this; exact this, n20, (h.ok k r hr).1, (h.ok k r hr).2.2, fun rk e x hx => by rw [hr] at e; cases e; exact hx, fun i' z => absurd z (Nat.not_lt_zero _)⟩
theorem CT.at {rows : List Cell} {t k i o : Nat} {r : List Nat} {rss : List (List Nat)} (h : CT rows t k r i rss) (eo : r[i]? = some o) : ∃ (_ : o < rows.length) (rk ro : List Nat), rss[k]? = some rk ∧ rss[o]? = some ro ∧ rk.length ≤ 20 ∧ ro.length ≤ 20 := by
  have ol := h.rl o (List.mem_of_getElem? eo)
  have e1 := List.getElem?_eq_getElem (l := rss) (i := k) (by rw [h.cs.len]; exact h.kl)
  have e2 := List.getElem?_eq_getElem (l := rss) (i := o) (by rw [h.cs.len]; exact ol)
  exact ⟨ol, _, _, e1, e2, (h.cs.ok _ _ e1).2.1, (h.cs.ok _ _ e2).2.1⟩
theorem set_at {α : Type} {xs : List α} {k j : Nat} {x y : α} (h : (xs.set k x)[j]? = some y) (kl : k < xs.length) : (j = k ∧ y = x) ∨ (j ≠ k ∧ xs[j]? = some y) := by
  by_cases e : k = j
  · subst e
    rw [List.getElem?_set_self kl] at h
    exact .inl ⟨rfl, (Option.some.inj h).symm⟩
  · rw [List.getElem?_set_ne e] at h
    exact .inr ⟨fun z => e z.symm, h⟩
theorem CT.put {rows : List Cell} {t k i o : Nat} {r rk ro ys : List Nat} {rss : List (List Nat)} (h : CT rows t k r i rss) (eo : r[i]? = some o) (hrk : rss[k]? = some rk) (hro : rss[o]? = some ro) (asc : ys.Pairwise (· < ·)) (mem : ∀ x, x ∈ ys ↔ x ∈ rk ∨ x ∈ ro) : CT rows t k r (i + 1) (rss.set k ys) := by
  have kl : k < rss.length := by rw [h.cs.len]; exact h.kl
  obtain ⟨ck, _, lk⟩ := h.cs.ok k rk hrk
  obtain ⟨co, _, lo⟩ := h.cs.ok o ro hro
  have lys : ∀ x ∈ ys, x < rows.length := fun x hx => ((mem x).mp hx).elim (lk x) (lo x)
  have sy : ys.length ≤ 20 := by
    have := gnd_le (asc.imp fun h => Nat.ne_of_lt h) fun x hx => List.mem_range.mpr (lys x hx)
    rw [List.length_range] at this
    exact Nat.le_trans this h.n20
  refine ⟨⟨by rw [List.length_set]; exact h.cs.len, fun j q e => ?_, fun j hj q e => ?_⟩, h.kl, h.n20, h.r0, h.rl, fun q e x hx => ?_, fun i' hi' o' eo' q e m x hm s => ?_⟩
  · rcases set_at e kl with ⟨rfl, rfl⟩ | ⟨_, e⟩
    · exact ⟨ck.join co.so (h.sup rk hrk o (List.mem_of_getElem? eo)) mem, sy, lys⟩
    · exact h.cs.ok j q e
  · rcases set_at e kl with ⟨rfl, rfl⟩ | ⟨_, e⟩
    · exact absurd hj (Nat.lt_irrefl _)
    · exact h.cs.more j hj q e
  · rw [List.getElem?_set_self kl] at e
    cases e
    exact (mem x).mpr (.inl (h.sup rk hrk x hx))
  · rw [List.getElem?_set_self kl] at e
    cases e
    by_cases c : i' < i
    · exact (mem x).mpr (.inl (h.cov i' c o' eo' rk hrk m x hm s))
    · have : i' = i := by omega
      subst this
      rw [eo] at eo'
      cases eo'
      exact (mem x).mpr (.inr (co.cv m x hm s))
theorem CT.done {rows : List Cell} {t k : Nat} {r : List Nat} {rss : List (List Nat)} (h : CT rows t k r r.length rss) : CS rows t (k + 1) rss := by
  refine ⟨h.cs.len, h.cs.ok, fun j hj q e => ?_⟩
  by_cases c : j < k
  · exact h.cs.more j c q e
  · have : j = k := by omega
    subst this
    refine CI.turn (by omega) (h.cs.ok j q e).1 fun o ho m x hm s => ?_
    have om : o ∈ r := h.r0.cv 0 o (by omega) (.succ ho (.zero o))
    obtain ⟨i', hi'⟩ := List.getElem?_of_mem om
    exact h.cov i' (List.getElem?_eq_some_iff.mp hi').1 o hi' q e m x hm s
theorem nat_at' {xs : List Nat} {i : Nat} {w : V} (h : (vn xs)[i]? = some w) : ∃ k, xs[i]? = some k ∧ w = .int (k : Nat) ∧ k ∈ xs := by
  unfold vn at h
  rw [List.getElem?_map] at h
  obtain ⟨k, hk, e⟩ := Option.map_eq_some_iff.mp h
  exact ⟨k, hk, e.symm, List.mem_of_getElem? hk⟩
theorem tSS {σ : L2.St} {K : PySem.W.Frag} {w : World} {H : Hp} {a : V} {Q : VK} (h : rSetOf K w [a] H fun z Hz => rSortedSet w [z] Hz Q) : tNil σ H (fun xs H2 => rSetOf K w (a :: xs) H2 fun x H3 => tNil σ H3 fun ys H4 => rSortedSet w (x :: ys) H4 Q) := h
def sp__law_circles (K : PySem.W.Frag) : Sp := fun vs H Q _ => ∃ (v : V) (c : Cells), vs = [v] ∧ Dv H v c ∧ (∀ e ∈ c.rows, ∀ s ∈ e.src, InR c.rows s) ∧ (∀ e ∈ c.rows, e.src.length ≤ 5) ∧ c.rows.length ≤ 20 ∧
  ∀ H' l (res : List Nat), Same H H' → H l = none → H' l = some (.lst (vn res)) → res.Pairwise (· < ·) → (∀ y, y ∈ res ↔ circ c y) → Q (.ref l) H'
theorem ok__law_circles {P : Program} {w : World} {K : PySem.W.Frag} {mg : Str → Option Value} {base : Heap} {C_KindError fI_KindError : Addr} {fd_KindError : FuncData} {C_LoopError fI_LoopError : Addr} {fd_LoopError : FuncData} {B_ : Addr} {mc_ : Value} {tk_MOST_SOURCES : Tok} {f  : Addr} {fd  : FuncData} (F : Fun K "_law_circles" "_law_circles" s__law_circles f fd) (T : Txt K mg C_KindError fI_KindError fd_KindError C_LoopError fI_LoopError fd_LoopError B_ mc_ tk_MOST_SOURCES) :
    FnOk P w K mg base CX0 1 f fd ["cells"] (sp__law_circles K) := by
  refine F.ok sc_law_circles (fun vs H Q E h => ?_) (fun cdv A outer s H vs Q E hr h => ?_)
  · obtain ⟨v, c, rfl, _⟩ := h
    rfl
  · obtain ⟨v, c, rfl, hv, inr, few, n20, q⟩ := h
    have hv0 := hv
    obtain ⟨a, rw, oo, us, ws, rfl, ha, hR, hus, hW, hws⟩ := cells_inv hv
    refine ⟨_, (pss_cons (ps_set (i := 1) sc_law_circles.nd rfl (.inl rfl) (pe_callB call_len_seq (by rfl) T.m_len (by decide +kernel) (pa_cons (pe_ix (r := rIxT K) ix_tup (pv 0) pe_int (fun _ _ => rfl)) pa_nil)))
      (pss_cons (ps_set (i := 2) sc_law_circles.nd rfl (.inr rfl) (pe_lst pa_nil))
      (pss_cons (ps_for PassesOwn.never rfl (pi_range1 rfl T.m_range (pa_cons (pv 1) pa_nil)) (pg_name (i := 3) sc_law_circles.nd rfl (Or.inl rfl)) (pss_cons (ps_set (i := 4) sc_law_circles.nd rfl (.inl rfl) (pe_lst pa_nil))
      (C8.pss_cut (ps_if (pt_cmpR op_eq (pe_ix (r := rIxT K) ix_tup (pe_ix (r := rIxL K) ix_list (pe_ix (r := rIxT K) ix_tup (pv 0) pe_int (fun _ _ => rfl)) (pv 3) (fun _ _ => rfl)) pe_int (fun _ _ => rfl)) pe_int (nomark _)) (pss_one (ps_setLc (i := 4) (own := [("one", 7)]) (g := gName 7) rfl sc_law_circles.nd rfl rfl (sw_true rfl rfl rfl (by decide +kernel)) (pi_list (pe_ix (r := rIxT K) ix_tup (pe_ix (r := rIxL K) ix_list (pe_ix (r := rIxT K) ix_tup (pv 0) pe_int (fun _ _ => rfl)) (pv 3) (fun _ _ => rfl)) pe_int (fun _ _ => rfl))) (blkOk_by (N := N__law_circles) (sc := defScope s__law_circles) (by decide +kernel)) (fun _ _ _ _ _ => (pg_name (i := 7) sc_law_circles.nd rfl (Or.inl rfl))) (fun _ _ _ _ _ => (pts_one (PW.pt (pw_and (pt_cmpR op_eq (pe_ix (r := rIxT K) ix_tup (pv 7) pe_int (fun _ _ => rfl)) pe_str (nomark _)) (pw_and1 (pt_cmpR op_eq (pe_ix (r := rIxT K) ix_tup (pe_ix (r := rIxL K) ix_list (pe_ix (r := rIxT K) ix_tup (pv 0) pe_int (fun _ _ => rfl)) (pe_ix (r := rIxT K) ix_tup (pv 7) pe_int (fun _ _ => rfl)) (fun _ _ => rfl)) pe_int (fun _ _ => rfl)) pe_int (nomark _))))))) (fun _ _ _ _ _ => (pe_ix (r := rIxT K) ix_tup (pv 7) pe_int (fun _ _ => rfl))))) pss_nil)
      (pss_one (ps_expr (pe_bm PySem.F.plainAttrs_list PySem.F.slot_list_append PySem.F.type_list_append mt_append (pv 2) (pa_cons (pv 4) pa_nil)))))))
      (pss_cons (ps_for PassesOwn.never rfl (pi_range1 rfl T.m_range (pa_cons (pv 1) pa_nil)) (pg_name (i := 5) sc_law_circles.nd rfl (Or.inl rfl)) (pss_one (ps_for PassesOwn.never rfl (pi_range1 rfl T.m_range (pa_cons (pv 1) pa_nil)) (pg_name (i := 3) sc_law_circles.nd rfl (Or.inl rfl)) (pss_one (ps_for PassesOwn.never rfl (pi_list (pe_callTy call_list_of (by rfl) T.m_list (by decide +kernel) (pa_cons (pe_ix (r := rIxL K) ix_list (pv 2) (pv 3) (fun _ _ => rfl)) pa_nil))) (pg_name (i := 6) sc_law_circles.nd rfl (Or.inl rfl)) (pss_one (ps_asg (pe_callB (r := rSortedSet w) (cr_sortedSet (by rfl)) (by rfl) T.m_sorted (by decide +kernel) (pa_cons (pe_callTy (r := rSetOf K w) (cr_setOf (by rfl)) (by rfl) T.m_set (by decide +kernel) (pa_cons (pe_op op_cat (pe_ix (r := rIxL K) ix_list (pv 2) (pv 3) (fun _ _ => rfl)) (pe_ix (r := rIxL K) ix_list (pv 2) (pv 6) (fun _ _ => rfl))) pa_nil)) pa_nil)) (pg_sub (pv 2) (pv 3) set_list))))))))
      (pss_one (ps_ret (pe_lc (own := [("k", 3)]) (g := gName 3) rfl sc_law_circles.nd (pi_range1 rfl T.m_range (pa_cons (pv 1) pa_nil)) (blkOk_by (N := N__law_circles) (sc := defScope s__law_circles) (by decide +kernel)) (fun _ _ _ _ _ => (pg_name (i := 3) sc_law_circles.nd rfl (Or.inl rfl))) (fun _ _ _ _ _ => (pts_one (pt_cmpR (r := rIn K false) op_in_seq (pv 3) (pe_ix (r := rIxL K) ix_list (pv 2) (pv 3) (fun _ _ => rfl)) (by rfl)))) (fun _ _ _ _ _ => (pv 3))))))))), ?_⟩
    refine ⟨_, rfl, a, _, 2, _, rfl, rfl, SqT.of ha, atI_nat (j := 2) rfl, rw, _, rfl, .inl (SqL.of hR), ?_⟩
    rw [hus.len]
    refine ⟨by show 0 ≤ sizeLine; decide, fun L nL => ?_⟩
    have sL := same_new (o := .lst ([] : List V)) nL
    have hL : (upd H L (.lst ([] : List V))) L = some (.lst []) := upd_same
    generalize (upd H L (.lst ([] : List V))) = H1 at sL hL ⊢
    refine ⟨_, rfl, _, rfl, by omega, by omega, for_range (n := c.rows.length) (fun k σ Hx => ∃ (y3 y4 : Option V) (rs : List V) (rss : List (List Nat)), σ = [some (.ref a), some (.int (c.rows.length : Nat)), some (.ref L), y3, y4, none, none, none] ∧ Same H Hx ∧ Hx L = some (.lst rs) ∧ Dvs (hid L Hx) rs rss ∧ rss.length = k ∧ ∀ j r, rss[j]? = some r → r = uses0 c.rows j) ⟨none, none, [], [], rfl, sL, hL, .nil, rfl, fun j r h => by simp at h⟩ ?_ ?_⟩
    · rintro k σ Hx hk ⟨y3, y4, rs, rss, rfl, sx, hLx, drs, lrs, eqs⟩
      rw [Int.zero_add]
      refine ⟨by show 0 ≤ sizeLine; decide, fun r0 nr0 => ?_⟩
      have s1 := same_new (o := .lst ([] : List V)) nr0
      have h0 : (upd Hx r0 (.lst ([] : List V))) r0 = some (.lst (vn [])) := upd_same
      generalize (upd Hx r0 (.lst ([] : List V))) = H2 at s1 h0 ⊢
      have sx2 := sx.trans s1
      have hLx2 := s1 _ _ hLx
      have r0L : r0 ≠ L := (ne_of_none hLx nr0).symm
      have he := List.getElem?_eq_getElem hk
      have em := List.getElem_mem hk
      generalize c.rows[k] = e at he em
      obtain ⟨u, hu, du⟩ := hus.get he
      obtain ⟨a1, sl, ts, rfl, ha1, hsl, hts⟩ := cell_inv du
      refine ⟨fun σ Hy => ∃ rr : Addr, σ = [some (.ref a), some (.int (c.rows.length : Nat)), some (.ref L), some (.int (k : Nat)), some (.ref rr), none, none, none] ∧ Same H2 Hy ∧ Hy rr = some (.lst (vn (uses0 c.rows k))) ∧ rr ≠ L, ?_, ?_⟩
      · refine ⟨_, rfl, a, _, 2, _, rfl, rfl, SqT.of (sx2 _ _ ha), atI_nat (j := 2) rfl, _, rfl, rw, _, _, _, rfl, rfl, SqL.of (sx2 _ _ hR), atI_nat hu, a1, _, 3, _, rfl, rfl, SqT.of (sx2 _ _ ha1), atI_nat (j := 3) rfl, rfl, _, rfl, ?_⟩
        by_cases k0 : e.kept = 0
        rotate_left
        · rw [show decide (V.int e.kept = V.int 0) = false from decide_eq_false (fun z => k0 (V.int.inj z))]
          refine iteF ⟨r0, rfl, Same.refl _, ?_, r0L⟩
          rw [h0, uses0_no he k0]
        rw [show decide (V.int e.kept = V.int 0) = true from decide_eq_true (by rw [k0])]
        refine iteT ⟨_, rfl, a, _, 2, _, rfl, rfl, SqT.of (sx2 _ _ ha), atI_nat (j := 2) rfl, _, rfl, rw, _, _, _, rfl, rfl, SqL.of (sx2 _ _ hR), atI_nat hu, a1, _, 1, _, rfl, rfl, SqT.of (sx2 _ _ ha1), atI_nat (j := 1) rfl, sl, rfl, ⟨_, SqL.of (sx2 _ _ hsl)⟩, fun D nD => lc_list (xs := ts) (fun j Hz => Same H2 Hz ∧ Hz D = some (.lst (vn ((e.src.take j).filterMap (useOf c.rows))))) ⟨same_new nD, upd_same⟩ (fun j Hz _ h => SqL.of (h.1 _ _ (sx2 _ _ hsl))) ?_ ?_⟩
        · rintro j u3 Hz hu3 ⟨sz, hD⟩
          have sxz := sx2.trans sz
          obtain ⟨s, hs, ds⟩ := (hts.same sxz).at hu3
          obtain ⟨t, rfl, ht⟩ := sce_inv ds
          have sm := List.mem_of_getElem? hs
          have jl := (List.getElem?_eq_some_iff.mp hs).1
          have sl60 := few e em
          have no : useOf c.rows s = none → Same H2 Hz ∧ Hz D = some (.lst (vn ((e.src.take (j + 1)).filterMap (useOf c.rows)))) := fun z => by
            refine ⟨sz, ?_⟩
            rw [take_snoc hs, List.filterMap_append]
            have : [s].filterMap (useOf c.rows) = [] := by simp [z]
            rw [this, List.append_nil]
            exact hD
          cases s with
          | no =>
            refine ⟨rfl, _, rfl, t, _, 0, _, rfl, rfl, SqT.of ht, atI_nat (j := 0) rfl, rfl, _, rfl, ?_⟩
            rw [dstr, decide_eq_false st_noc]
            exact iteF (iteF (no rfl))
          | pad i' =>
            refine ⟨rfl, _, rfl, t, _, 0, _, rfl, rfl, SqT.of ht, atI_nat (j := 0) rfl, rfl, _, rfl, ?_⟩
            rw [dstr, decide_eq_false st_pc]
            exact iteF (iteF (no rfl))
          | cel i' =>
            have rng : 0 ≤ i' ∧ i' < (c.rows.length : Int) := inr e em _ sm
            obtain ⟨n, rfl⟩ : ∃ n : Nat, i' = (n : Int) := ⟨i'.toNat, by omega⟩
            have hn := List.getElem?_eq_getElem (l := c.rows) (show n < c.rows.length by omega)
            generalize c.rows[n] = e2 at hn
            obtain ⟨u2, hu2, du2⟩ := (hus.same sxz).get hn
            obtain ⟨a2, sl2, ws2, rfl, ha2, _⟩ := cell_inv du2
            have uo : useOf c.rows (.cel (n : Int)) = if e2.kept = 0 then some n else none := by
              show (if (c.rows[((n : Nat) : Int).toNat]?.map Cell.kept) = some 0 then some ((n : Nat) : Int).toNat else none) = _
              rw [Int.toNat_natCast, hn]
              by_cases c : e2.kept = 0
              · rw [if_pos c, if_pos (by show some e2.kept = some 0; rw [c])]
              · have nc : ¬ (Option.map Cell.kept (some e2) = some 0) := fun z => c (Option.some.inj z)
                rw [if_neg c, if_neg nc]
            refine ⟨rfl, _, rfl, t, _, 0, _, rfl, rfl, SqT.of ht, atI_nat (j := 0) rfl, rfl, _, rfl, ?_⟩
            rw [dstr, decide_eq_true rfl]
            refine iteT ⟨_, rfl, a, _, 2, _, rfl, rfl, SqT.of (sxz _ _ ha), atI_nat (j := 2) rfl, _, rfl, t, _, 1, _, rfl, rfl, SqT.of ht, atI_nat (j := 1) rfl, rw, _, _, _, rfl, rfl, SqL.of (sxz _ _ hR), atI_nat hu2, a2, _, 3, _, rfl, rfl, SqT.of ha2, atI_nat (j := 3) rfl, rfl, _, rfl, ?_⟩
            rw [show decide (V.int e2.kept = V.int 0) = decide (e2.kept = 0) from decide_eq_decide.mpr ⟨fun h => V.int.inj h, fun h => by rw [h]⟩]
            by_cases c0 : e2.kept = 0
            · rw [decide_eq_true c0]
              rw [if_pos c0] at uo
              refine iteT ⟨_, rfl, t, _, 1, _, rfl, rfl, SqT.of ht, atI_nat (j := 1) rfl, _, hD, ?_, same_mut sz nD, ?_⟩
              · rw [vn_len]
                have := List.length_filterMap_le (useOf c.rows) (e.src.take j)
                rw [List.length_take] at this
                exact small1000 (by omega)
              · rw [upd_same, take_snoc hs, List.filterMap_append, vn_snoc]
                have : [Sce.cel (n : Int)].filterMap (useOf c.rows) = [n] := by simp [uo]
                rw [this]
            · rw [decide_eq_false c0]
              rw [if_neg c0] at uo
              exact iteF (no uo)
        rintro Hz ⟨sz, hD⟩
        rw [hts.len, List.take_length, ← usesOf_at he] at hD
        refine ⟨D, rfl, sz, ?_, (ne_of_none hLx2 nD).symm⟩
        rw [hD, uses0_yes he k0]
      rintro σ Hy ⟨rr, rfl, sy, hrr, rrL⟩
      have s1y := s1.trans sy
      have hLy := s1y _ _ hLx
      refine ⟨_, rfl, .inl ⟨rfl, _, SqL.of hLy⟩, _, rfl, L, _, _, rfl, rfl, hLy, by rw [drs.len]; exact small1000 (by omega), ?_⟩
      have hm : Same (hid L Hy) (hid L (upd Hy L (.lst (rs ++ [.ref rr])))) := hid_mut
      refine ⟨some (.int (k : Nat)), some (.ref rr), rs ++ [.ref rr], rss ++ [uses0 c.rows k], rfl, same_mut (sx.trans s1y) nL, upd_same, (((drs.same (hid_mono s1y)).app (.cons (Dv.natl (hid_of rrL hrr)) .nil)).same hm), by rw [List.length_append, lrs]; rfl, fun j r h => ?_⟩
      by_cases c1 : j < k
      · rw [List.getElem?_append_left (by omega)] at h
        exact eqs j r h
      · rw [List.getElem?_append_right (by omega), lrs] at h
        have : j = k := by
          by_cases z : j - k = 0
          · omega
          · obtain ⟨m, em⟩ : ∃ m, j - k = m + 1 := ⟨j - k - 1, by omega⟩
            rw [em] at h
            simp at h
        subst this
        rw [Nat.sub_self] at h
        cases h
        rfl
    rintro σ H2 ⟨y3, y4, rs, rss, rfl, s2, hL2, drs, lrs, eqs⟩
    clear hL sL
    have gf := uses0_gf (rows := c.rows) (by omega)
    have start : CS c.rows 0 0 rss := ⟨lrs, fun j r h => ⟨by rw [eqs j r h]; exact CI.first j, by rw [eqs j r h]; exact uses0_len (fun e he => Nat.le_trans (few e he) (by decide)) j, fun x hx => by rw [eqs j r h] at hx; exact uses0_lt hx⟩, fun j h => absurd h (Nat.not_lt_zero _)⟩
    clear eqs lrs
    refine ⟨_, rfl, _, rfl, by omega, by omega, for_range (n := c.rows.length) (fun t σ Hx => ∃ (y3 y5 y6 : Option V) (rs : List V) (rss : List (List Nat)), σ = [some (.ref a), some (.int (c.rows.length : Nat)), some (.ref L), y3, y4, y5, y6, none] ∧ Same H Hx ∧ Hx L = some (.lst rs) ∧ Dvs (hid L Hx) rs rss ∧ CS c.rows t 0 rss) ⟨y3, none, none, rs, rss, rfl, s2, hL2, drs, start⟩ ?_ ?_⟩
    · rintro t σ Hx ht ⟨y3, y5, y6, rs, rss, rfl, sx, hLx, drs, cs⟩
      refine ⟨_, rfl, _, rfl, by omega, by omega, for_range (n := c.rows.length) (fun k σ Hz => ∃ (y3 y6 : Option V) (rs : List V) (rss : List (List Nat)), σ = [some (.ref a), some (.int (c.rows.length : Nat)), some (.ref L), y3, y4, some (.int ((0 : Int) + (t : Nat))), y6, none] ∧ Same H Hz ∧ Hz L = some (.lst rs) ∧ Dvs (hid L Hz) rs rss ∧ CS c.rows t k rss) ⟨y3, y6, rs, rss, rfl, sx, hLx, drs, cs⟩ ?_ ?_⟩
      · rintro k σ Hz hk ⟨y3, y6, rs, rss, rfl, sz, hLz, drs, cs⟩
        rw [Int.zero_add]
        have hk2 : k < rss.length := by rw [cs.len]; exact hk
        have hr := List.getElem?_eq_getElem hk2
        generalize rss[k] = r at hr
        obtain ⟨v, hv1, dv1⟩ := drs.get hr
        obtain ⟨ar, rfl, har⟩ := Dv.natl_inv dv1
        obtain ⟨arL, har⟩ := hid_some har
        refine ⟨_, rfl, _, rfl, L, _, _, _, rfl, rfl, SqL.of hLz, atI_nat hv1, ar, _, rfl, .inl (SqL.of har), fun C nC => ?_⟩
        have sC := same_new (o := .lst (vn r)) nC
        have hC : (upd Hz C (.lst (vn r))) C = some (.lst (vn r)) := upd_same
        have hLC := sC _ _ hLz
        have CL : C ≠ L := (ne_of_none hLz nC).symm
        generalize (upd Hz C (.lst (vn r))) = H5 at sC hC hLC ⊢
        have drs5 := drs.same (hid_mono sC)
        refine ⟨C, rfl, ⟨_, SqL.of hC⟩, for_list (xs := vn r) (fun i σ Hw => ∃ (y6 : Option V) (rs : List V) (rss' : List (List Nat)), σ = [some (.ref a), some (.int (c.rows.length : Nat)), some (.ref L), some (.int (k : Nat)), y4, some (.int ((0 : Int) + (t : Nat))), y6, none] ∧ Same H Hw ∧ Hw C = some (.lst (vn r)) ∧ Hw L = some (.lst rs) ∧ Dvs (hid L Hw) rs rss' ∧ CT c.rows t k r i rss') ⟨y6, rs, rss, rfl, sz.trans sC, hC, hLC, drs5, cs.start n20 hr⟩ (fun i σ Hw _ h => ?_) ?_ ?_⟩
        · obtain ⟨_, _, _, _, _, h, _⟩ := h
          exact SqL.of h
        · rintro i w σ Hw hw ⟨y6, rs, rss', rfl, sw, hCw, hLw, drw, ct⟩
          obtain ⟨o, eo, rfl, om⟩ := nat_at' hw
          obtain ⟨ol, rk, ro, hrk, hro, lk, lo⟩ := ct.at eo
          obtain ⟨v1, hv1, dv1⟩ := drw.get hrk
          obtain ⟨v2, hv2, dv2⟩ := drw.get hro
          obtain ⟨ak, rfl, hak⟩ := Dv.natl_inv dv1
          obtain ⟨ao, rfl, hao⟩ := Dv.natl_inv dv2
          obtain ⟨_, hak⟩ := hid_some hak
          obtain ⟨_, hao⟩ := hid_some hao
          refine ⟨_, rfl, _, rfl, L, _, _, _, rfl, rfl, SqL.of hLw, atI_nat hv1, _, rfl, _, rfl, L, _, _, _, rfl, rfl, SqL.of hLw, atI_nat hv2, ak, ao, _, _, rfl, rfl, hak, hao, by rw [vn_len, vn_len]; exact Nat.le_of_lt (small1000 (by omega)), fun Z nZ => ?_⟩
          rw [vn_cat']
          have sZ := same_new (o := .lst (vn (rk ++ ro))) nZ
          refine tSS (sorted_set_nat (xs := rk ++ ro) upd_same (by rw [List.length_append]; omega) fun p ys H6 s6 np hp asc mem ly => ?_)
          have s56 := sZ.trans s6
          have hL6 := s56 _ _ hLw
          have pL : p ≠ L := fun e => by
            rw [e] at np
            rw [sZ _ _ hLw] at np
            cases np
          have kl : k < rs.length := (List.getElem?_eq_some_iff.mp hv1).1
          refine ⟨_, rfl, _, rfl, L, rs, _, k, rfl, rfl, hL6, ix_nat kl, ?_⟩
          have hm : Same (hid L H6) (hid L (upd H6 L (.lst (rs.set k (.ref p))))) := hid_mut
          refine ⟨_, rs.set k (.ref p), rss'.set k ys, rfl, same_mut (sw.trans s56) nL, (upd_ne CL).trans (s56 _ _ hCw), upd_same, (Dvs.put (Dv.natl (hid_of pL hp)) k (drw.same (hid_mono s56))).same hm, ct.put eo hrk hro asc fun x => (mem x).trans List.mem_append⟩
        rintro σ Hw ⟨y6, rs, rss', rfl, sw, hCw, hLw, drw, ct⟩
        rw [vn_len] at ct
        exact ⟨_, y6, rs, rss', rfl, sw, hLw, drw, ct.done⟩
      · rintro σ Hz ⟨y3, y6, rs, rss, rfl, sz, hLz, drs, cs⟩
        exact ⟨y3, _, y6, rs, rss, rfl, sz, hLz, drs, cs.next⟩
    rintro σ H3 ⟨y3, y5, y6, rs, rss, rfl, s3, hL3, drs, cs⟩
    -- which lead back
    refine ⟨_, rfl, _, rfl, by omega, by omega, fun D nD => lc_range (n := c.rows.length) (fun k Hz => Same H3 Hz ∧ Hz D = some (.lst (vn ((List.range k).filter fun k => decide (k ∈ rss[k]?.getD []))))) ⟨same_new nD, upd_same⟩ ?_ ?_⟩
    · rintro k Hz hk ⟨sz, hD⟩
      show gName 3 (V.int ((0 : Int) + (k : Nat))) _ _ _
      rw [Int.zero_add]
      have hk2 : k < rss.length := by rw [cs.len]; exact hk
      have hr := List.getElem?_eq_getElem hk2
      generalize rss[k] = r at hr
      obtain ⟨v, hv1, dv1⟩ := drs.get hr
      obtain ⟨ar, rfl, har⟩ := Dv.natl_inv dv1
      obtain ⟨_, har⟩ := hid_some har
      refine ⟨rfl, _, rfl, _, rfl, _, rfl, L, _, _, _, rfl, rfl, SqL.of (sz _ _ hL3), atI_nat hv1, ar, _, rfl, .inl (SqL.of (sz _ _ har)), rfl, flat_vn r, _, rfl, ?_⟩
      have fs : (List.range (k + 1)).filter (fun k => decide (k ∈ rss[k]?.getD [])) = (List.range k).filter (fun k => decide (k ∈ rss[k]?.getD [])) ++ if k ∈ r then [k] else [] := by
        rw [List.range_succ, List.filter_append, List.filter_cons, hr]
        by_cases m : k ∈ r
        · rw [if_pos m, if_pos (by show decide (k ∈ r) = true; exact decide_eq_true m)]
          rfl
        · rw [if_neg m, if_neg (by show ¬ decide (k ∈ r) = true; rw [decide_eq_false m]; decide)]
          rfl
      rw [if_neg (by decide), inV_vn]
      by_cases m : k ∈ r
      · rw [decide_eq_true m]
        refine iteT ⟨_, rfl, _, hD, ?_, same_mut sz nD, ?_⟩
        · rw [vn_len]
          have := List.length_filter_le (fun k => decide (k ∈ rss[k]?.getD [])) (List.range k)
          rw [List.length_range] at this
          exact small1000 (by omega)
        · rw [upd_same, fs, if_pos m, vn_snoc]
      · rw [decide_eq_false m]
        refine iteF ⟨sz, ?_⟩
        rw [hD, fs, if_neg m, List.append_nil]
    rintro H4 ⟨s4, hD⟩
    refine q H4 D _ (s3.trans s4) (none_of s3 nD) hD ((asc_range _).filter _) fun y => ?_
    rw [List.mem_filter, List.mem_range, decide_eq_true_eq]
    unfold circ
    refine and_congr_right fun hy => ?_
    obtain ⟨r, hr⟩ : ∃ r, rss[y]? = some r := ⟨_, List.getElem?_eq_getElem (by rw [cs.len]; exact hy)⟩
    rw [hr, Option.getD_some]
    exact ((cs.ok y r hr).1.done gf (List.mem_range.mpr hy) (by rw [List.length_range]; omega)).trans (uses0_onc y)

end K48
namespace K48
open PySem PySem.Spec PyProof.Rows L2 V0
/-! ### the law -/
theorem Sm.text {z : Str} (h : PyData.leavesShort 13 (.str z) = true) (w : PyData.weight (.str z) ≤ 80) : Sm (.str z) 80 := ⟨by simp only [PyData.showable], h, w⟩
theorem Sm.up {d : PyData} {n : Nat} (h : Sm d n) (m : Nat) (l : n ≤ m) : Sm d m := h.mono l
theorem sm_sce {s : Sce} (h : s.sml) : Sm (PySem.W.Datum.toD s) 200 := by
  cases s with
  | no =>
    refine (Sm.tup (SmA.all (n := 80) (ds := [.str "none"]) fun d hd => ?_)).mono (by decide)
    rw [List.mem_singleton.mp hd]
    exact Sm.text (by simp only [PyData.leavesShort]; decide +kernel) (by simp only [PyData.weight]; decide +kernel)
  | pad i =>
    have h : i.natAbs ≤ 100 := h
    refine (Sm.tup (SmA.all (n := 80) (ds := [.str "pad", .int i]) fun d hd => ?_)).mono (by show 2 * 81 ≤ 200; decide)
    rcases List.mem_cons.mp hd with rfl | hd
    · exact Sm.text (by simp only [PyData.leavesShort]; decide +kernel) (by simp only [PyData.weight]; decide +kernel)
    · rw [List.mem_singleton.mp hd]
      exact (Sm.int (Nat.lt_of_le_of_lt h (by decide))).mono (by decide)
  | cel i =>
    have h : i.natAbs ≤ 100 := h
    refine (Sm.tup (SmA.all (n := 80) (ds := [.str "cell", .int i]) fun d hd => ?_)).mono (by show 2 * 81 ≤ 200; decide)
    rcases List.mem_cons.mp hd with rfl | hd
    · exact Sm.text (by simp only [PyData.leavesShort]; decide +kernel) (by simp only [PyData.weight]; decide +kernel)
    · rw [List.mem_singleton.mp hd]
      exact (Sm.int (Nat.lt_of_le_of_lt h (by decide))).mono (by decide)
theorem sm_cell {e : Cell} (h : EB e) : Sm (PySem.W.Datum.toD e) 6000 := by
  obtain ⟨h1, h2, h3, h4, h5⟩ := h
  have g : Sm (.tuple [.str "cell", PySem.W.Datum.toD e.src, .int e.table, .int e.kept, .int e.start]) (5 * (1005 + 1)) := Sm.tup (SmA.all fun d hd => by
    simp only [List.mem_cons, List.not_mem_nil, or_false] at hd
    rcases hd with rfl | rfl | rfl | rfl | rfl
    · exact (Sm.text (by simp only [PyData.leavesShort]; decide +kernel) (by simp only [PyData.weight]; decide +kernel)).mono (by decide)
    · exact (Sm.of_list fun s hs => sm_sce (h2 s hs)).mono (Nat.mul_le_mul_right 201 h1)
    · exact (Sm.int (Nat.lt_of_le_of_lt h3 (by decide))).mono (by decide)
    · exact (Sm.int (Nat.lt_of_le_of_lt h4 (by decide))).mono (by decide)
    · exact (Sm.int (Nat.lt_of_le_of_lt h5 (by decide))).mono (by decide))
  exact g.mono (by decide)
theorem sm_cells {c : Cells} (h : CB c) : Sm (PySem.W.Datum.toD c) 300000 := by
  have g : Sm (.tuple [.str "cells", PySem.W.Datum.toD c.ins, PySem.W.Datum.toD c.rows, PySem.W.Datum.toD c.outs]) (4 * (48008 + 1)) := Sm.tup (SmA.all fun d hd => by
    simp only [List.mem_cons, List.not_mem_nil, or_false] at hd
    rcases hd with rfl | rfl | rfl | rfl
    · exact (Sm.text (by simp only [PyData.leavesShort]; decide +kernel) (by simp only [PyData.weight]; decide +kernel)).mono (by decide)
    · exact (Sm.nat (Nat.lt_of_le_of_lt h.ins (by decide))).mono (by decide)
    · exact (Sm.of_list fun e he => sm_cell (h.rows e he)).mono (Nat.mul_le_mul_right 6001 h.rl)
    · exact (Sm.of_list fun s hs => sm_sce (h.outs s hs)).mono (Nat.le_trans (Nat.mul_le_mul_right 201 h.ol) (by decide)))
  exact g.mono (by decide)
theorem cok_of {c : Cells} (cb : CB c) (h : FaultIs c none) : COk c ∧ ∀ e ∈ c.rows, c.right e := by
  rcases h with ⟨_, _, z, _⟩ | ⟨all, h⟩
  · cases z
  · rcases h with ⟨_, _, z, _⟩ | ⟨_, al⟩
    · cases z
    · refine ⟨⟨fun e he => (all e he).2.1, fun e he => (all e he).1, fun e he => (all e he).2.2.1.1, fun e he => (all e he).2.2.2.1, al, Nat.le_trans cb.rl (by decide), Nat.le_trans cb.ol (by decide), fun e he => (all e he).2.2.2.2.1⟩, all⟩
def sp_law (K : PySem.W.Frag) : Sp := fun vs H Q _ => ∃ (a : Addr) (ns : List Int), vs = [.ref a] ∧ SqL K H a (vi ns) ∧ ns.length ≤ 63 ∧ ∀ H', Q (.bl true) H'
theorem tNil1 {σ : L2.St} {H : Hp} {R : List V → Hp → VK → Prop} {a : V} {Q : VK} (h : R [a] H Q) : tNil σ H (fun xs H2 => R (a :: xs) H2 Q) := h
theorem notOn {c : Cells} (no : ∀ y, ¬ circ c y) : ∀ y, ¬ OnC (usesOf c.rows) y := fun y h => by
  by_cases l : y < c.rows.length
  · exact no y ⟨l, h⟩
  · obtain ⟨z, hz, _⟩ := h
    unfold usesOf at hz
    rw [List.getElem?_eq_none (by omega)] at hz
    cases hz
theorem ok_law {P : Program} {w : World} {K : PySem.W.Frag} {mg : Str → Option Value} {base : Heap} {C_KindError fI_KindError : Addr} {fd_KindError : FuncData} {C_LoopError fI_LoopError : Addr} {fd_LoopError : FuncData} {B_ : Addr} {mc_ : Value} {tk_MOST_SOURCES : Tok} {f f_law_state f_law_cells f_law_fault fcheck_cells f_law_circles f_law_draw f_law_bit f_law_table fstep_cells frun_cells : Addr} {fd fd_law_state fd_law_cells fd_law_fault fdcheck_cells fd_law_circles fd_law_draw fd_law_bit fd_law_table fdstep_cells fdrun_cells : FuncData} (F : Fun K "law" "law" s_law f fd) (T : Txt K mg C_KindError fI_KindError fd_KindError C_LoopError fI_LoopError fd_LoopError B_ mc_ tk_MOST_SOURCES)
    (G__law_state : FnOk P w K mg base CX0 1 f_law_state fd_law_state ["script"] (sp__law_state K)) (D__law_state : Def K mg "_law_state" f_law_state fd_law_state ["script"])
    (G__law_cells : FnOk P w K mg base CX0 4 f_law_cells fd_law_cells ["state"] (sp__law_cells K)) (D__law_cells : Def K mg "_law_cells" f_law_cells fd_law_cells ["state"])
    (G__law_fault : FnOk P w K mg base CX0 2 f_law_fault fd_law_fault ["cells"] (sp__law_fault K)) (D__law_fault : Def K mg "_law_fault" f_law_fault fd_law_fault ["cells"])
    (G_check_cells : FnOk P w K mg base (L2N.CX P w) 6 fcheck_cells fdcheck_cells ["cells"] (sp_check_cells K C_KindError C_LoopError)) (D_check_cells : Def K mg "check_cells" fcheck_cells fdcheck_cells ["cells"])
    (G__law_circles : FnOk P w K mg base CX0 1 f_law_circles fd_law_circles ["cells"] (sp__law_circles K)) (D__law_circles : Def K mg "_law_circles" f_law_circles fd_law_circles ["cells"])
    (G__law_draw : FnOk P w K mg base CX0 1 f_law_draw fd_law_draw ["state", "many"] (sp__law_draw K)) (D__law_draw : Def K mg "_law_draw" f_law_draw fd_law_draw ["state", "many"])
    (G__law_bit : FnOk P w K mg base CX0 25 f_law_bit fd_law_bit ["cells", "source", "held", "bits"] (sp__law_bit K)) (D__law_bit : Def K mg "_law_bit" f_law_bit fd_law_bit ["cells", "source", "held", "bits"])
    (G__law_table : FnOk P w K mg base CX0 24 f_law_table fd_law_table ["cells", "at", "held", "bits"] (sp__law_table K)) (D__law_table : Def K mg "_law_table" f_law_table fd_law_table ["cells", "at", "held", "bits"])
    (G_step_cells : FnOk P w K mg base CX0 4 fstep_cells fdstep_cells ["cells", "state", "bits"] (sp_step_cells K)) (D_step_cells : Def K mg "step_cells" fstep_cells fdstep_cells ["cells", "state", "bits"])
    (G_run_cells : FnOk P w K mg base CX0 4 frun_cells fdrun_cells ["cells", "rows"] (sp_run_cells K)) (D_run_cells : Def K mg "run_cells" frun_cells fdrun_cells ["cells", "rows"])
    (GH__law_circles : L2H.FnH P w K mg base CX0 1 f_law_circles fd_law_circles ["cells"] (sp__law_circles K)) :
    LawOk P w K mg base f fd ["script"] (sp_law K) := by
  refine lawOk F sclaw (k := 60) ⟨rfl, by decide, by decide⟩ (fun vs H Q E h => ?_) (fun cdv A outer s0 H vs Q E hr hgd h => ?_)
  · obtain ⟨a, ns, rfl, _⟩ := h
    rfl
  · obtain ⟨a, ns, rfl, hS, hl, q⟩ := h
    refine ⟨_, (pss_cons (ps_set (i := 1) sclaw.nd rfl (.inr rfl) (pe_call G__law_state (hr.mono (by omega)) (by rfl) D__law_state.m D__law_state.k D__law_state.b .nil pass0 (pa_cons (pv 0) pa_nil)))
      (pss_cons (ps_set (i := 2) sclaw.nd rfl (.inr rfl) (pe_call G__law_cells (hr.mono (by omega)) (by rfl) D__law_cells.m D__law_cells.k D__law_cells.b .nil pass0 (pa_cons (pv 1) pa_nil)))
      (pss_cons (ps_set (i := 3) sclaw.nd rfl (.inl rfl) (pe_callB (r := rRepr K) (call_reprD hgd hr.units) (by rfl) T.m_repr (by decide +kernel) (pa_cons (pv 2) pa_nil)))
      (pss_cons (ps_set (i := 4) sclaw.nd rfl (.inl rfl) (pe_call G__law_fault (hr.mono (by omega)) (by rfl) D__law_fault.m D__law_fault.k D__law_fault.b .nil pass0 (pa_cons (pv 2) pa_nil)))
      (pss_cons (ps_try_mas (i := 6) (n := "e") (Wout := fun _ _ _ _ => False) rfl rfl sclaw.nd rfl rfl takes0N (fun W pn xe tk _ => (pss_one (ps_set (i := 5) sclaw.nd rfl (.inl rfl) (by exact (pe_callS G_check_cells (hr.mono (by omega)) (by rfl) D_check_cells.m D_check_cells.k D_check_cells.b (fun σ => L2N.passAt tk σ) (by exact (pa_cons (pv 2) pa_nil))))))) (HdsAs.cons (c := .ref C_KindError) ⟨rfl, by decide, .inl T.x_KindError.m⟩ (fun a oe cls d pn hz hf => (pss_one (ps_ret (pe_and (pe_callB (call_isEx T.i_KindError hz.zc hf) (by rfl) T.m_isinstance (by decide +kernel) (pa_cons (pv 6) (pa_cons (pe_glob (v := .ref B_) rfl T.xb.m rfl) pa_nil))) (pe_and (pe_cmpR op_notN (pv 4) pe_non (nomark _)) (pe_one (pe_cmpR op_eq (pe_xf T.x_KindError.xf T.x_KindError.no hz.zc hf (pv 6)) (pv 4) (nomark _)))))))) (HdsAs.cons (c := .ref C_LoopError) ⟨rfl, by decide, .inl T.x_LoopError.m⟩ (fun a oe cls d pn hz hf => (pss_cons (ps_if (PW.pt (pw_or (pt_cmpR op_notN (pv 4) pe_non (nomark _)) (pw_or1 (pt_not (pt_val (pe_callB (call_isEx T.i_LoopError hz.zc hf) (by rfl) T.m_isinstance (by decide +kernel) (pa_cons (pv 6) (pa_cons (pe_glob (v := .ref B_) rfl T.xb.m rfl) pa_nil)))))))) (pss_one (ps_ret pe_bl)) pss_nil)
      (pss_one (ps_ret (pe_and (pe_cmpR (r := rEqD K) (op_eqD hr.units) (pe_xf T.x_LoopError.xf T.x_LoopError.no hz.zc hf (pv 6)) (L2H.pe_callH (E := fun _ => E0) GH__law_circles (L2H.roomH_mark (hr.mono (by omega)) _) (hot_suite hz hf) (by rfl) D__law_circles.m D__law_circles.k D__law_circles.b (fun _ _ _ _ _ _ _ h => h.elim) (pa_cons (pv 2) pa_nil)) (nomark _)) (pe_one (pe_cmpR op_gt (pe_callB (r := fun xs H Q => ∃ p ys, xs = [.ref p] ∧ (SqL K H p ys ∨ SqT K H p ys) ∧ Q (.int ys.length) H) call_len_seq (by rfl) T.m_len (by decide +kernel) (pa_cons (pe_xf T.x_LoopError.xf T.x_LoopError.no hz.zc hf (pv 6)) pa_nil)) pe_int (nomark _)))))))) HdsAs.nil)))
      (pss_cons (ps_if (PW.pt (pw_or (pt_cmpR op_notN (pv 5) pe_non (nomark _)) (pw_or (pt_cmpR op_notN (pv 4) pe_non (nomark _)) (pw_or1 (pt_cmpR (op_neD hr.units) (pe_call G__law_circles (hr.mono (by omega)) (by rfl) D__law_circles.m D__law_circles.k D__law_circles.b .nil pass0 (pa_cons (pv 2) pa_nil)) (pe_lst pa_nil) (nomark _)))))) (pss_one (ps_ret pe_bl)) pss_nil)
      (pss_cons (ps_setLc (i := 7) (own := [("j", 13)]) (g := gName 13) (tt := tYes) rfl sclaw.nd rfl rfl (sw_true rfl rfl rfl (by decide +kernel)) (pi_range1 rfl T.m_range (pa_cons (pe_call G__law_draw (hr.mono (by omega)) (by rfl) D__law_draw.m D__law_draw.k D__law_draw.b .nil pass0 (pa_cons (pv 1) (pa_cons pe_int pa_nil))) pa_nil)) (blkOk_by (N := N_law) (sc := defScope s_law) (by decide +kernel)) (fun _ _ _ _ _ => (pg_name (i := 13) sclaw.nd rfl (Or.inl rfl))) (fun _ _ _ _ _ => pts_nil) (fun _ _ _ _ _ => (pe_lc (own := [("k", 15)]) (g := gName 15) (tt := tYes) rfl sclaw.nd (pi_range1 rfl T.m_range (pa_cons (pe_ix (r := rIxT K) ix_tup (pv 2) pe_int (fun _ _ => rfl)) pa_nil)) (blkOk_by (N := N_law) (sc := relS _ (defScope s_law)) (by decide +kernel)) (fun _ _ _ _ _ => (pg_name (i := 15) sclaw.nd rfl (Or.inl rfl))) (fun _ _ _ _ _ => pts_nil) (fun _ _ _ _ _ => (pe_call G__law_draw (hr.mono (by omega)) (by rfl) D__law_draw.m D__law_draw.k D__law_draw.b .nil pass0 (pa_cons (pv 1) (pa_cons pe_int pa_nil)))))))
      (pss_cons (ps_set (i := 8) sclaw.nd rfl (.inr rfl) (pe_lc (own := [("cell", 14)]) (g := gName 14) (tt := tYes) rfl sclaw.nd (pi_list (pe_ix (r := rIxT K) ix_tup (pv 2) pe_int (fun _ _ => rfl))) (blkOk_by (N := N_law) (sc := defScope s_law) (by decide +kernel)) (fun _ _ _ _ _ => (pg_name (i := 14) sclaw.nd rfl (Or.inl rfl))) (fun _ _ _ _ _ => pts_nil) (fun _ _ _ _ _ => (pe_ix (r := rIxT K) ix_tup (pv 14) pe_int (fun _ _ => rfl)))))
      (pss_cons (ps_set (i := 9) sclaw.nd rfl (.inl rfl) (pe_lst pa_nil))
      (pss_cons (ps_for PassesOwn.never rfl (pi_list (pv 7)) (pg_name (i := 10) sclaw.nd rfl (Or.inr rfl)) (pss_cons (ps_setLc (i := 11) (own := [("source", 16)]) (g := gName 16) (tt := tYes) rfl sclaw.nd rfl rfl (sw_true rfl rfl rfl (by decide +kernel)) (pi_list (pe_ix (r := rIxT K) ix_tup (pv 2) pe_int (fun _ _ => rfl))) (blkOk_by (N := N_law) (sc := defScope s_law) (by decide +kernel)) (fun _ _ _ _ _ => (pg_name (i := 16) sclaw.nd rfl (Or.inl rfl))) (fun _ _ _ _ _ => pts_nil) (fun _ _ _ _ _ => (pe_call G__law_bit (hr.mono (by omega)) (by rfl) D__law_bit.m D__law_bit.k D__law_bit.b .nil pass0 (pa_cons (pv 2) (pa_cons (pv 16) (pa_cons (pv 8) (pa_cons (pv 10) pa_nil)))))))
      (pss_cons (ps_setLc (i := 12) (own := [("k", 15)]) (g := gName 15) (tt := tYes) rfl sclaw.nd rfl rfl (sw_true rfl rfl rfl (by decide +kernel)) (pi_range1 rfl T.m_range (pa_cons (pe_callB call_len_seq (by rfl) T.m_len (by decide +kernel) (pa_cons (pv 8) pa_nil)) pa_nil)) (blkOk_by (N := N_law) (sc := defScope s_law) (by decide +kernel)) (fun _ _ _ _ _ => (pg_name (i := 15) sclaw.nd rfl (Or.inl rfl))) (fun _ _ _ _ _ => pts_nil) (fun _ _ _ _ _ => (pe_op op_mul (pe_call G__law_table (hr.mono (by omega)) (by rfl) D__law_table.m D__law_table.k D__law_table.b .nil pass0 (pa_cons (pv 2) (pa_cons (pv 15) (pa_cons (pv 8) (pa_cons (pv 10) pa_nil))))) (pe_ix (r := rIxT K) ix_tup (pe_ix (r := rIxL K) ix_list (pe_ix (r := rIxT K) ix_tup (pv 2) pe_int (fun _ _ => rfl)) (pv 15) (fun _ _ => rfl)) pe_int (fun _ _ => rfl)))))
      (pss_cons (ps_if (pt_cmpR (op_neD hr.units) (pe_call G_step_cells (hr.mono (by omega)) (by rfl) D_step_cells.m D_step_cells.k D_step_cells.b .nil pass0 (pa_cons (pv 2) (pa_cons (pv 8) (pa_cons (pv 10) pa_nil)))) (pe_tup (pa_cons (pv 11) (pa_cons (pv 12) pa_nil))) (nomark _)) (pss_one (ps_ret pe_bl)) pss_nil)
      (pss_cons (ps_expr (pe_bm PySem.F.plainAttrs_list PySem.F.slot_list_append PySem.F.type_list_append mt_append (pv 9) (pa_cons (pv 11) pa_nil)))
      (pss_one (ps_set (i := 8) sclaw.nd rfl (.inr rfl) (pv 12))))))))
      (pss_one (ps_ret (pe_and (pe_cmpR (op_eqD hr.units) (pe_call G_run_cells (hr.mono (by omega)) (by rfl) D_run_cells.m D_run_cells.k D_run_cells.b .nil pass0 (pa_cons (pv 2) (pa_cons (pv 7) pa_nil))) (pv 9) (nomark _)) (pe_one (pe_cmpR op_eq (pe_callB (r := rRepr K) (call_reprD hgd hr.units) (by rfl) T.m_repr (by decide +kernel) (pa_cons (pv 2) pa_nil)) (pv 3) (nomark _)))))))))))))))), ?_⟩
    refine ⟨_, rfl, a, ns, rfl, hS, hl, fun H1 p c s1 d1 => ⟨_, rfl, p, c, rfl, d1, fun H2 t cs g2 dv0 cb => ?_⟩⟩
    have dv2 : Dv H2 (.ref t) cs := dv0.same (fun b o z => (res_some z).2.2)
    have rl := cb.rl
    have ol := cb.ol
    have l5 : ∀ e ∈ cs.rows, e.src.length ≤ 5 := fun e he => (cb.rows e he).1
    refine ⟨_, rfl, tNil1 (R := rRepr K) (reprD (x := cs) dv2 (sm_cells cb) (by decide) (by decide) ?_)⟩
    refine ⟨_, rfl, .ref t, cs, rfl, dv2, fun e he => Nat.le_trans (l5 e he) (by decide), by omega, by omega, fun H3 o s3 hf => ?_⟩
    have dv3 := dv2.same s3
    refine ⟨_, rfl, .ref t, cs, rfl, dv3, fun e he => Nat.le_trans (l5 e he) (by decide), by omega, by omega, fun z hz d H4 s4 e => ?_, fun hz l d res H4 s4 hl pw mem ne e => ?_, fun hz no H4 s4 => ?_⟩
    · -- a fault of kind
      refine ⟨true, T.x_KindError.exm T.x_KindError.sf, fun _ b nb => ?_, fun h => by cases h⟩
      have eo := hf.uniq hz
      subst eo
      refine ⟨_, rfl, _, _, true, d, _, rfl, .own B_, rfl, rfl, e, kit_cls_yes T.bc T.bt T.sb_KindError, _, rfl, iteT ⟨_, rfl, rfl, _, rfl, ?_⟩⟩
      rw [show decide (ovs (some z) = V.non) = false from decide_eq_false (fun h => by cases h)]
      refine iteT ⟨_, rfl, rfl, rfl, d, _, .str z, rfl, e, by rfl, _, rfl, rfl, ?_⟩
      rw [show decide (V.str z = ovs (some z)) = true from decide_eq_true rfl]
      exact q _
    · -- circles
      refine ⟨false, T.x_KindError.exm T.xn_LoopError_KindError, fun h => (by cases h), fun _ => ⟨true, T.x_LoopError.exm T.x_LoopError.sf, fun _ b nb => ?_, fun h => by cases h⟩⟩
      have eo := hf.uniq hz
      subst eo
      obtain ⟨cok, allR⟩ := cok_of cb hz
      refine ⟨_, rfl, rfl, _, rfl, ?_⟩
      rw [show decide (ovs none = V.non) = true from decide_eq_true rfl]
      refine iteF ⟨_, rfl, _, _, true, d, _, rfl, .own B_, rfl, rfl, e, kit_cls_yes T.bc T.bt T.sb_LoopError, _, rfl, iteF ?_⟩
      refine ⟨_, rfl, rfl, rfl, d, _, .ref l, rfl, e, by rfl, _, rfl, .ref t, cs, rfl, dv3.same s4, right_inr allR, l5, by omega, fun H5 l2 res2 s5 nl2 hl2 pw2 mem2 => eqD (α := List Nat) (Dv.natl (s5 _ _ hl)) (Dv.natl hl2) (by decide) ?_⟩
      rw [decide_eq_true (asc_unique pw pw2 fun y => (mem y).trans (mem2 y).symm)]
      refine ⟨_, rfl, iteT ⟨_, rfl, rfl, rfl, d, _, .ref l, rfl, s5 _ _ e, by rfl, l, _, rfl, .inl (SqL.of (s5 _ _ hl)), _, _, rfl, rfl, ?_⟩⟩
      have : 0 < res.length := List.length_pos_iff.mpr ne
      have e1 : decide ((0 : Int) < ((vn res).length : Int)) = true := decide_eq_true (by rw [vn_len]; omega)
      show Q (V.bl (decide ((0 : Int) < ((vn res).length : Int)))) H5
      rw [e1]
      exact q _
    -- right cells
    have eo := hf.uniq hz
    subst eo
    obtain ⟨cok, allR⟩ := cok_of cb hz
    have noC := notOn no
    have dv4 := dv3.same s4
    refine ⟨_, rfl, rfl, _, rfl, ?_⟩
    rw [show decide (V.non = V.non) = true from decide_eq_true rfl]
    refine iteF ⟨_, rfl, rfl, _, rfl, ?_⟩
    rw [show decide (ovs none = V.non) = true from decide_eq_true rfl]
    refine iteF ⟨_, rfl, .ref t, cs, rfl, dv4, right_inr allR, l5, by omega, fun H5 l rs s5 nl hl pw mem => ⟨by show 0 ≤ sizeLine; decide, fun E' nE => ?_⟩⟩
    have res0 : rs = [] := List.eq_nil_iff_forall_not_mem.mpr fun y hy => no y ((mem y).mp hy)
    have sE := same_new (o := .lst ([] : List V)) nE
    refine neD (α := List Nat) (a := rs) (b := []) (Dv.natl (sE _ _ hl)) (Dv.natl upd_same) (by decide) ⟨_, rfl, ?_⟩
    rw [decide_eq_true res0]
    refine iteF ?_
    have g6 := ((g2.more s3).more s4).more (s5.trans sE)
    have dv6 := (dv0.same (V0.Same.res s3 p c)).same (V0.Same.res (s4.trans (s5.trans sE)) p c)
    generalize (upd H5 E' (.lst ([] : List V))) = H6 at g6 dv6 ⊢
    -- rows of bits
    refine ⟨_, rfl, p, c, 7, rfl, g6.b, by decide, by decide, fun H7 many g7 hmany => ⟨_, rfl, by omega, by omega, fun D nD => lc_range (n := many) (fun j Hz => Go p c H7 Hz ∧ ∃ (us : List V) (bs : List (List Nat)), Hz D = some (.lst us) ∧ Dvs (hid D (res p c Hz)) us bs ∧ bs.length = j ∧ ∀ b ∈ bs, b.length = cs.ins ∧ ∀ x ∈ b, x < 2) ⟨Go.mut (Go.refl g7.b) nD, [], [], upd_same, .nil, rfl, fun b h => (by cases h)⟩ ?_ ?_⟩⟩
    · rintro j Hz hj ⟨gz, us, bs, hD, dus, lb, two⟩
      obtain ⟨Dp, Dc⟩ := g7.b.off nD
      have dvz := ((dv6.same g7.s).same gz.s)
      obtain ⟨a1, rw, oo, ws1, ws2, et, hta, _⟩ := cells_inv (dvz.same fun b o z => (res_some z).2.2)
      cases et
      refine ⟨rfl, _, rfl, t, _, 1, _, rfl, rfl, SqT.of hta, atI_nat (j := 1) rfl, _, rfl, by have := cb.ins; omega, by have := cb.ins; omega, fun D2 nD2 => lc_range (n := cs.ins) (fun i Hy => Go p c Hz Hy ∧ ∃ xs : List Nat, Hy D2 = some (.lst (vn xs)) ∧ xs.length = i ∧ ∀ x ∈ xs, x < 2) ⟨Go.mut (Go.refl gz.b) nD2, [], upd_same, rfl, fun x h => (by cases h)⟩ ?_ ?_⟩
      · rintro i Hy hi ⟨gy, xs, hD2, lx, x2⟩
        obtain ⟨D2p, D2c⟩ := gz.b.off nD2
        refine ⟨rfl, _, rfl, p, c, 2, rfl, gy.b, by decide, by decide, fun Hw x gw hx => ⟨_, gw.get D2p D2c hD2, by rw [vn_len]; exact small1000 (by have := cb.ins; omega), (gy.trans gw).mut nD2, xs ++ [x], ?_, by rw [List.length_append, lx]; rfl, mem_snoc x2 hx⟩⟩
        rw [upd_same, vn_snoc]
      rintro Hy ⟨gy, xs, hD2, lx, x2⟩
      have D2D : D2 ≠ D := (ne_of_none hD nD2).symm
      obtain ⟨D2p, D2c⟩ := gz.b.off nD2
      have hDy := gy.get Dp Dc hD
      refine ⟨us, hDy, by rw [dus.len]; exact small1000 (by omega), (gz.trans gy).mut nD, us ++ [.ref D2], bs ++ [xs], upd_same, ?_, by rw [List.length_append, lb]; rfl, mem_snoc two ⟨lx, x2⟩⟩
      exact ((dus.same (hid_mono gy.s)).app (.cons (Dv.natl (hid_of D2D (by rw [res_eq D2p D2c]; exact hD2))) .nil)).same hidres_up
    rintro H8 ⟨g8, us, bs, hD, dus0, lb, two⟩
    have dus := dus0.same ((hid_same D _).trans fun b o z => (res_some z).2.2)
    have dv8 : Dv H8 (.ref t) cs := ((dv6.same g7.s).same g8.s).same fun b o z => (res_some z).2.2
    clear dus0 dv6 nD g6 g7 g8 sE hl nE
    obtain ⟨_, rw, oo, ws1, ws2, et, hta, hR, hws1, hO, hws2⟩ := cells_inv dv8
    cases et
    obtain ⟨sl, s2⟩ := start_ok cok
    -- what is held
    refine ⟨_, rfl, t, _, 2, _, rfl, rfl, SqT.of hta, atI_nat (j := 2) rfl, rw, rfl, ⟨_, SqL.of hR⟩, fun Hd nHd => lc_list (xs := ws1) (fun k Hz => Same H8 Hz ∧ Hz Hd = some (.lst (vn ((startOf cs).take k)))) ⟨same_new nHd, upd_same⟩ (fun k Hz _ h => SqL.of (h.1 _ _ hR)) ?_ ?_⟩
    · rintro k u Hz hu ⟨sz, hH⟩
      obtain ⟨e, he, de⟩ := (hws1.same sz).at hu
      obtain ⟨a2, sl2, ts2, rfl, ha2, _⟩ := cell_inv de
      have kl := (List.getElem?_eq_some_iff.mp he).1
      have est : (startOf cs)[k]? = some e.start.toNat := by
        unfold startOf
        rw [List.getElem?_map, he]
        rfl
      refine ⟨rfl, _, rfl, a2, _, 4, _, rfl, rfl, SqT.of ha2, atI_nat (j := 4) rfl, _, hH, by rw [vn_len, List.length_take]; exact small1000 (by omega), same_mut sz nHd, ?_⟩
      rw [upd_same, take_snoc est, ← vn_snoc]
      have : (e.start.toNat : Int) = e.start := by
        rcases cok.st e (List.mem_of_getElem? he) with h | h <;> rw [h] <;> rfl
      rw [this]
    rintro H9 ⟨s9, hH⟩
    rw [hws1.len, ← show (startOf cs).length = cs.rows.length from sl, List.take_length] at hH
    refine ⟨by show 0 ≤ sizeLine; decide, fun Du nDu => ?_⟩
    have sD := same_new (o := .lst ([] : List V)) nDu
    have hDu : (upd H9 Du (.lst ([] : List V))) Du = some (.lst []) := upd_same
    have hH' := sD _ _ hH
    have s10 := s9.trans sD
    have nDu0 := none_of s9 nDu
    generalize (upd H9 Du (.lst ([] : List V))) = H10 at hDu hH' s10 ⊢
    have hD10 := s10 _ _ hD
    have dus10 := dus.same s10
    have dv10 := dv8.same s10
    have lbs : bs.length ≤ 6 := by omega
    have low : ∀ {Hx : Hp}, Same (hid Du H10) (hid Du Hx) → Same H8 (hid Du Hx) := fun k b o z => k _ _ (hid_of (ne_of_none z nDu0) (s10 _ _ z))
    refine ⟨_, rfl, D, rfl, ⟨_, SqL.of hD10⟩, for_list (xs := us) (fun i σ Hx => ∃ (y10 y11 y12 : Option V) (Hl : Addr) (ds : List V), σ = [some (.ref a), some (.ref p), some (.ref t), some (.str (txt cs)), some (ovs none), some .non, none, some (.ref D), some (.ref Hl), some (.ref Du), y10, y11, y12, none, none, none, none] ∧ Same (hid Du H10) (hid Du Hx) ∧ Hx Du = some (.lst ds) ∧ Hx Hl = some (.lst (vn (heldOf cs (startOf cs) (bs.take i)))) ∧ Hl ≠ Du ∧ Dvs (hid Du Hx) ds (runOf cs (startOf cs) (bs.take i))) ⟨none, none, none, Hd, [], rfl, Same.refl _, hDu, hH', ne_of_none hH nDu, .nil⟩ (fun i σ Hx _ ⟨_, _, _, _, _, _, k, _⟩ => SqL.of (hid_some (low k _ _ hD)).2) ?_ ?_⟩
    · rintro i v σ Hx hv ⟨y10, y11, y12, Hl, ds, rfl, k, hDux, hHl, HlD, hds⟩
      obtain ⟨b, hb, db⟩ := (dus.same (low k)).at hv
      obtain ⟨bA, rfl, hbA0⟩ := db.natl_inv
      have sx : Same H8 Hx := (low k).trans (hid_same _ _)
      have hbA := (hid_some hbA0).2
      obtain ⟨bl1, bl2⟩ := two b (List.mem_of_getElem? hb)
      have il := (List.getElem?_eq_some_iff.mp hb).1
      obtain ⟨h1, h2⟩ := held_ok cs (bs.take i) (startOf cs) sl s2
      rw [take_snoc hb, held_snoc, run_snoc]
      have rl0 := hds.len
      rw [run_len, List.length_take] at rl0
      generalize heldOf cs (startOf cs) (bs.take i) = hv at hHl h1 h2 ⊢
      have cx : Ctx cs hv b := ⟨cok, noC, h1, bl1, h2, bl2⟩
      have hWx := hws2.same sx
      -- what comes out
      refine ⟨_, rfl, t, _, 3, _, rfl, rfl, SqT.of (sx _ _ hta), atI_nat (j := 3) rfl, oo, rfl, ⟨_, SqL.of (sx _ _ hO)⟩, fun D1 nD1 => lc_list (xs := ws2) (fun j Hz => Same Hx Hz ∧ Hz D1 = some (.lst (vn ((outsOf cs hv b).take j)))) ⟨same_new nD1, upd_same⟩ (fun j Hz _ h => SqL.of (h.1 _ _ (sx _ _ hO))) ?_ ?_⟩
      · rintro j u Hz hu ⟨sz, hD1⟩
        obtain ⟨s, hs, du⟩ := (hWx.same sz).at hu
        have jl := (List.getElem?_eq_some_iff.mp hs).1
        have hA : (outsOf cs hv b)[j]? = some (s.told cs.rows hv b (lvl cs.rows hv b (cs.rows.length + 1))) := by
          unfold outsOf
          rw [List.getElem?_map, hs]
          rfl
        refine ⟨rfl, _, rfl, _, rfl, _, rfl, _, rfl, .ref t, u, Hl, bA, cs, hv, b, s, rfl, (dv8.same sx).same sz, du, cx, sz _ _ hHl, sz _ _ hbA, cok.ot s (List.mem_of_getElem? hs), fun w hw => cx.dep (useOf_lt hw) (by omega), ?_⟩
        refine ⟨_, hD1, by rw [vn_len, List.length_take]; exact small1000 (by omega), same_mut sz nD1, ?_⟩
        rw [upd_same, take_snoc hA, ← vn_snoc]
      rintro Hy ⟨sy, hD1⟩
      have ln : (outsOf cs hv b).length = cs.outs.length := by unfold outsOf; rw [List.length_map]
      rw [hWx.len, ← ln, List.take_length] at hD1
      -- what is held then
      refine ⟨_, rfl, Hl, _, rfl, .inl (SqL.of (sy _ _ hHl)), ?_⟩
      rw [vn_len, h1]
      refine ⟨_, rfl, by omega, by omega, fun D2 nD2 => lc_range (n := cs.rows.length) (fun j Hz => Same Hy Hz ∧ Hz D2 = some (.lst (vn ((aftOf cs hv b).take j)))) ⟨same_new nD2, upd_same⟩ ?_ ?_⟩
      · rintro j Hz jl ⟨sz, hD2⟩
        have sxz := (sx.trans sy).trans sz
        have he := List.getElem?_eq_getElem jl
        have em := List.getElem_mem jl
        generalize cs.rows[j] = e at he em
        obtain ⟨u, hu, du⟩ := (hws1.same sxz).get he
        obtain ⟨a1, sl1, ts1, rfl, ha1, _⟩ := cell_inv du
        have hA : (aftOf cs hv b)[j]? = some (lvl cs.rows hv b (cs.rows.length + 1) j * e.kept.toNat) := by
          unfold aftOf afterOf
          rw [List.getElem?_map, List.getElem?_range jl]
          show some (if (cs.rows[j]?.map Cell.kept) = some 1 then _ else 0) = _
          rw [he]
          rcases cok.kp e em with h | h
          · rw [if_neg (by show ¬ some e.kept = some 1; rw [h]; decide), h]; rfl
          · rw [if_pos (by show some e.kept = some 1; rw [h]), h]; exact congrArg some (Nat.mul_one _).symm
        have lt := lvl_lt (rows := cs.rows) (held := hv) (bits := b) (cs.rows.length + 1) j
        refine ⟨rfl, _, rfl, _, rfl, _, rfl, _, rfl, .ref t, Hl, bA, cs, hv, b, j, e, by rw [Int.zero_add]; rfl, dv8.same sxz, cx, sz _ _ (sy _ _ hHl), sz _ _ (sy _ _ hbA), he, cx.dep jl (by omega), ?_⟩
        refine ⟨_, rfl, t, _, 2, _, rfl, rfl, SqT.of (sxz _ _ hta), atI_nat (j := 2) rfl, _, rfl, rw, _, _, _, rfl, rfl, SqL.of (sxz _ _ hR), (by rw [Int.zero_add]; exact atI_nat hu), a1, _, 3, _, rfl, rfl, SqT.of ha1, atI_nat (j := 3) rfl, _, _, rfl, rfl, .inl ⟨by omega, by omega⟩, ?_⟩
        refine ⟨_, hD2, by rw [vn_len, List.length_take]; exact small1000 (by omega), same_mut sz nD2, ?_⟩
        rw [upd_same, take_snoc hA, ← vn_snoc]
        have ek : (e.kept.toNat : Int) = e.kept := by
          rcases cok.kp e em with h | h <;> rw [h] <;> rfl
        rw [Int.natCast_mul, ek]
      rintro Hw ⟨sw, hD2⟩
      rw [← aft_len cs hv b, List.take_length] at hD2
      have sxw := sy.trans sw
      have s8w := sx.trans sxw
      refine ⟨_, rfl, _, rfl, _, rfl, .ref t, Hl, bA, cs, hv, b, rfl, dv8.same s8w, cok, sxw _ _ hHl, sxw _ _ hbA, noC, h1, bl1, h2, bl2, fun H3 z t1 t2 s3' n1 n2 hz e1 e2 => ⟨_, rfl, _, rfl, by show 2 ≤ sizeLine; decide, fun Z nZ => ?_⟩⟩
      have sZ := same_new (o := .tup [.ref D1, .ref D2]) nZ
      have sxZ := (sxw.trans s3').trans sZ
      refine neD (α := List Nat × List Nat) (a := (outsOf cs hv b, aftOf cs hv b)) (b := (outsOf cs hv b, aftOf cs hv b)) (.pair (sZ _ _ hz) (.natl (sZ _ _ e1)) (.natl (sZ _ _ e2))) (.pair upd_same (.natl (sZ _ _ (s3' _ _ (sw _ _ hD1)))) (.natl (sZ _ _ (s3' _ _ hD2)))) (by decide) ⟨_, rfl, ?_⟩
      rw [decide_eq_true rfl]
      have hDu3 := sxZ _ _ hDux
      have hD1' := sZ _ _ (s3' _ _ (sw _ _ hD1))
      have hD2' := sZ _ _ (s3' _ _ hD2)
      have D1n : D1 ≠ Du := (ne_of_none hDux nD1).symm
      have D2n : D2 ≠ Du := (ne_of_none (sy _ _ hDux) nD2).symm
      generalize (upd H3 Z (.tup [.ref D1, .ref D2])) = H4 at sxZ hDu3 hD1' hD2' ⊢
      have ky : Same (hid Du Hx) (hid Du (upd H4 Du (.lst (ds ++ [.ref D1])))) := (hid_mono sxZ).trans hid_mut
      refine iteF ⟨_, rfl, .inl ⟨rfl, _, SqL.of hDu3⟩, _, rfl, Du, _, _, rfl, rfl, hDu3, small1000 (by omega), ?_⟩
      refine ⟨_, rfl, _, _, _, D2, ds ++ [.ref D1], rfl, k.trans ky, upd_same, (by rw [upd_ne D2n]; exact hD2'), D2n, ?_⟩
      exact (hds.same ky).app (.cons (.natl (hid_of D1n (by rw [upd_ne D1n]; exact hD1'))) .nil)
    rintro σ Hx ⟨y10, y11, y12, Hl, ds, rfl, k, hDux, hHl, HlD, hds⟩
    have sx : Same H8 Hx := (low k).trans (hid_same _ _)
    rw [dus.len, List.take_length] at hds
    refine ⟨_, rfl, _, rfl, .ref t, D, cs, us, bs, rfl, dv8.same sx, cok, sx _ _ hD, dus.same sx, noC, by omega, two, fun H11 t2 s11 dr => ⟨_, rfl, eqD (α := List (List Nat)) dr (.list (s11 _ _ hDux) (hds.same ((hid_same _ _).trans s11))) (by decide) ?_⟩⟩
    rw [decide_eq_true rfl]
    refine ⟨_, rfl, iteT ⟨_, rfl, tNil1 (R := rRepr K) (reprD (x := cs) (dv8.same (sx.trans s11)) (sm_cells cb) (by decide) (by decide) ⟨_, rfl, rfl, ?_⟩)⟩⟩
    show Q (V.bl (decide (V.str (txt cs) = V.str (txt cs)))) _
    rw [decide_eq_true rfl]
    exact q _

end K48
namespace K48
open PySem PySem.Spec PyProof.Rows L2 V0
theorem okH__law_circles {P : Program} {w : World} {K : PySem.W.Frag} {mg : Str → Option Value} {base : Heap} {C_KindError fI_KindError : Addr} {fd_KindError : FuncData} {C_LoopError fI_LoopError : Addr} {fd_LoopError : FuncData} {B_ : Addr} {mc_ : Value} {tk_MOST_SOURCES : Tok} {f  : Addr} {fd  : FuncData} (F : Fun K "_law_circles" "_law_circles" s__law_circles f fd) (T : Txt K mg C_KindError fI_KindError fd_KindError C_LoopError fI_LoopError fd_LoopError B_ mc_ tk_MOST_SOURCES) :
    L2H.FnH P w K mg base CX0 1 f fd ["cells"] (sp__law_circles K) := by
  refine okH F sc_law_circles (fun vs H Q E h => ?_) (fun cdv A outer s H vs Q E p hc hr h => ?_)
  · obtain ⟨v, c, rfl, _⟩ := h
    rfl
  · obtain ⟨v, c, rfl, hv, inr, few, n20, q⟩ := h
    have hv0 := hv
    obtain ⟨a, rw, oo, us, ws, rfl, ha, hR, hus, hW, hws⟩ := cells_inv hv
    refine ⟨_, (pss_cons (ps_set (i := 1) sc_law_circles.nd rfl (.inl rfl) (pe_callB call_len_seq (by rfl) T.m_len (by decide +kernel) (pa_cons (pe_ix (r := rIxT K) ix_tup (pv 0) pe_int (fun _ _ => rfl)) pa_nil)))
      (pss_cons (ps_set (i := 2) sc_law_circles.nd rfl (.inr rfl) (pe_lst pa_nil))
      (pss_cons (L2H.ps_forH (passes_of rfl) hc (L2H.pi_range1H rfl T.m_range (pa_cons (pv 1) pa_nil)) (pg_name (i := 3) sc_law_circles.nd rfl (Or.inl rfl)) (pss_cons (ps_set (i := 4) sc_law_circles.nd rfl (.inl rfl) (pe_lst pa_nil))
      (C8.pss_cut (ps_if (pt_cmpR op_eq (pe_ix (r := rIxT K) ix_tup (pe_ix (r := rIxL K) ix_list (pe_ix (r := rIxT K) ix_tup (pv 0) pe_int (fun _ _ => rfl)) (pv 3) (fun _ _ => rfl)) pe_int (fun _ _ => rfl)) pe_int (nomark _)) (pss_one (V0.ps_setLcH (i := 4) (own := [("one", 7)]) (g := gName 7) hc sc_law_circles.nd rfl rfl (sw_true rfl rfl rfl (by decide +kernel)) (V0.pi_listH (pe_ix (r := rIxT K) ix_tup (pe_ix (r := rIxL K) ix_list (pe_ix (r := rIxT K) ix_tup (pv 0) pe_int (fun _ _ => rfl)) (pv 3) (fun _ _ => rfl)) pe_int (fun _ _ => rfl))) (blkOk_by (N := N__law_circles) (sc := defScope s__law_circles) (by decide +kernel)) (fun _ _ _ _ _ => (pg_name (i := 7) sc_law_circles.nd rfl (Or.inl rfl))) (fun _ _ _ _ _ => (pts_one (PW.pt (pw_and (pt_cmpR op_eq (pe_ix (r := rIxT K) ix_tup (pv 7) pe_int (fun _ _ => rfl)) pe_str (nomark _)) (pw_and1 (pt_cmpR op_eq (pe_ix (r := rIxT K) ix_tup (pe_ix (r := rIxL K) ix_list (pe_ix (r := rIxT K) ix_tup (pv 0) pe_int (fun _ _ => rfl)) (pe_ix (r := rIxT K) ix_tup (pv 7) pe_int (fun _ _ => rfl)) (fun _ _ => rfl)) pe_int (fun _ _ => rfl)) pe_int (nomark _))))))) (fun _ _ _ _ _ => (pe_ix (r := rIxT K) ix_tup (pv 7) pe_int (fun _ _ => rfl))))) pss_nil)
      (pss_one (ps_expr (pe_bm PySem.F.plainAttrs_list PySem.F.slot_list_append PySem.F.type_list_append mt_append (pv 2) (pa_cons (pv 4) pa_nil)))))))
      (pss_cons (L2H.ps_forH (passes_of rfl) hc (L2H.pi_range1H rfl T.m_range (pa_cons (pv 1) pa_nil)) (pg_name (i := 5) sc_law_circles.nd rfl (Or.inl rfl)) (pss_one (L2H.ps_forH (passes_of rfl) hc (L2H.pi_range1H rfl T.m_range (pa_cons (pv 1) pa_nil)) (pg_name (i := 3) sc_law_circles.nd rfl (Or.inl rfl)) (pss_one (L2H.ps_forH (passes_of rfl) hc (V0.pi_listH (pe_callTy call_list_of (by rfl) T.m_list (by decide +kernel) (pa_cons (pe_ix (r := rIxL K) ix_list (pv 2) (pv 3) (fun _ _ => rfl)) pa_nil))) (pg_name (i := 6) sc_law_circles.nd rfl (Or.inl rfl)) (pss_one (ps_asg (pe_callB (r := rSortedSet w) (V0.cr_sortedSetH hc) (by rfl) T.m_sorted (by decide +kernel) (pa_cons (pe_callTy (r := rSetOf K w) (V0.cr_setOfH hc) (by rfl) T.m_set (by decide +kernel) (pa_cons (pe_op op_cat (pe_ix (r := rIxL K) ix_list (pv 2) (pv 3) (fun _ _ => rfl)) (pe_ix (r := rIxL K) ix_list (pv 2) (pv 6) (fun _ _ => rfl))) pa_nil)) pa_nil)) (pg_sub (pv 2) (pv 3) set_list))))))))
      (pss_one (ps_ret (V0.pe_lcH (own := [("k", 3)]) (g := gName 3) hc sc_law_circles.nd (L2H.pi_range1H rfl T.m_range (pa_cons (pv 1) pa_nil)) (blkOk_by (N := N__law_circles) (sc := defScope s__law_circles) (by decide +kernel)) (fun _ _ _ _ _ => (pg_name (i := 3) sc_law_circles.nd rfl (Or.inl rfl))) (fun _ _ _ _ _ => (pts_one (pt_cmpR (r := rIn K false) op_in_seq (pv 3) (pe_ix (r := rIxL K) ix_list (pv 2) (pv 3) (fun _ _ => rfl)) (by rfl)))) (fun _ _ _ _ _ => (pv 3))))))))), ?_⟩
    refine ⟨_, rfl, a, _, 2, _, rfl, rfl, SqT.of ha, atI_nat (j := 2) rfl, rw, _, rfl, .inl (SqL.of hR), ?_⟩
    rw [hus.len]
    refine ⟨by show 0 ≤ sizeLine; decide, fun L nL => ?_⟩
    have sL := same_new (o := .lst ([] : List V)) nL
    have hL : (upd H L (.lst ([] : List V))) L = some (.lst []) := upd_same
    generalize (upd H L (.lst ([] : List V))) = H1 at sL hL ⊢
    refine ⟨_, rfl, _, rfl, by omega, by omega, for_range (n := c.rows.length) (fun k σ Hx => ∃ (y3 y4 : Option V) (rs : List V) (rss : List (List Nat)), σ = [some (.ref a), some (.int (c.rows.length : Nat)), some (.ref L), y3, y4, none, none, none] ∧ Same H Hx ∧ Hx L = some (.lst rs) ∧ Dvs (hid L Hx) rs rss ∧ rss.length = k ∧ ∀ j r, rss[j]? = some r → r = uses0 c.rows j) ⟨none, none, [], [], rfl, sL, hL, .nil, rfl, fun j r h => by simp at h⟩ ?_ ?_⟩
    · rintro k σ Hx hk ⟨y3, y4, rs, rss, rfl, sx, hLx, drs, lrs, eqs⟩
      rw [Int.zero_add]
      refine ⟨by show 0 ≤ sizeLine; decide, fun r0 nr0 => ?_⟩
      have s1 := same_new (o := .lst ([] : List V)) nr0
      have h0 : (upd Hx r0 (.lst ([] : List V))) r0 = some (.lst (vn [])) := upd_same
      generalize (upd Hx r0 (.lst ([] : List V))) = H2 at s1 h0 ⊢
      have sx2 := sx.trans s1
      have hLx2 := s1 _ _ hLx
      have r0L : r0 ≠ L := (ne_of_none hLx nr0).symm
      have he := List.getElem?_eq_getElem hk
      have em := List.getElem_mem hk
      generalize c.rows[k] = e at he em
      obtain ⟨u, hu, du⟩ := hus.get he
      obtain ⟨a1, sl, ts, rfl, ha1, hsl, hts⟩ := cell_inv du
      refine ⟨fun σ Hy => ∃ rr : Addr, σ = [some (.ref a), some (.int (c.rows.length : Nat)), some (.ref L), some (.int (k : Nat)), some (.ref rr), none, none, none] ∧ Same H2 Hy ∧ Hy rr = some (.lst (vn (uses0 c.rows k))) ∧ rr ≠ L, ?_, ?_⟩
      · refine ⟨_, rfl, a, _, 2, _, rfl, rfl, SqT.of (sx2 _ _ ha), atI_nat (j := 2) rfl, _, rfl, rw, _, _, _, rfl, rfl, SqL.of (sx2 _ _ hR), atI_nat hu, a1, _, 3, _, rfl, rfl, SqT.of (sx2 _ _ ha1), atI_nat (j := 3) rfl, rfl, _, rfl, ?_⟩
        by_cases k0 : e.kept = 0
        rotate_left
        · rw [show decide (V.int e.kept = V.int 0) = false from decide_eq_false (fun z => k0 (V.int.inj z))]
          refine iteF ⟨r0, rfl, Same.refl _, ?_, r0L⟩
          rw [h0, uses0_no he k0]
        rw [show decide (V.int e.kept = V.int 0) = true from decide_eq_true (by rw [k0])]
        refine iteT ⟨_, rfl, a, _, 2, _, rfl, rfl, SqT.of (sx2 _ _ ha), atI_nat (j := 2) rfl, _, rfl, rw, _, _, _, rfl, rfl, SqL.of (sx2 _ _ hR), atI_nat hu, a1, _, 1, _, rfl, rfl, SqT.of (sx2 _ _ ha1), atI_nat (j := 1) rfl, sl, rfl, ⟨_, SqL.of (sx2 _ _ hsl)⟩, fun D nD => lc_list (xs := ts) (fun j Hz => Same H2 Hz ∧ Hz D = some (.lst (vn ((e.src.take j).filterMap (useOf c.rows))))) ⟨same_new nD, upd_same⟩ (fun j Hz _ h => SqL.of (h.1 _ _ (sx2 _ _ hsl))) ?_ ?_⟩
        · rintro j u3 Hz hu3 ⟨sz, hD⟩
          have sxz := sx2.trans sz
          obtain ⟨s, hs, ds⟩ := (hts.same sxz).at hu3
          obtain ⟨t, rfl, ht⟩ := sce_inv ds
          have sm := List.mem_of_getElem? hs
          have jl := (List.getElem?_eq_some_iff.mp hs).1
          have sl60 := few e em
          have no : useOf c.rows s = none → Same H2 Hz ∧ Hz D = some (.lst (vn ((e.src.take (j + 1)).filterMap (useOf c.rows)))) := fun z => by
            refine ⟨sz, ?_⟩
            rw [take_snoc hs, List.filterMap_append]
            have : [s].filterMap (useOf c.rows) = [] := by simp [z]
            rw [this, List.append_nil]
            exact hD
          cases s with
          | no =>
            refine ⟨rfl, _, rfl, t, _, 0, _, rfl, rfl, SqT.of ht, atI_nat (j := 0) rfl, rfl, _, rfl, ?_⟩
            rw [dstr, decide_eq_false st_noc]
            exact iteF (iteF (no rfl))
          | pad i' =>
            refine ⟨rfl, _, rfl, t, _, 0, _, rfl, rfl, SqT.of ht, atI_nat (j := 0) rfl, rfl, _, rfl, ?_⟩
            rw [dstr, decide_eq_false st_pc]
            exact iteF (iteF (no rfl))
          | cel i' =>
            have rng : 0 ≤ i' ∧ i' < (c.rows.length : Int) := inr e em _ sm
            obtain ⟨n, rfl⟩ : ∃ n : Nat, i' = (n : Int) := ⟨i'.toNat, by omega⟩
            have hn := List.getElem?_eq_getElem (l := c.rows) (show n < c.rows.length by omega)
            generalize c.rows[n] = e2 at hn
            obtain ⟨u2, hu2, du2⟩ := (hus.same sxz).get hn
            obtain ⟨a2, sl2, ws2, rfl, ha2, _⟩ := cell_inv du2
            have uo : useOf c.rows (.cel (n : Int)) = if e2.kept = 0 then some n else none := by
              show (if (c.rows[((n : Nat) : Int).toNat]?.map Cell.kept) = some 0 then some ((n : Nat) : Int).toNat else none) = _
              rw [Int.toNat_natCast, hn]
              by_cases c : e2.kept = 0
              · rw [if_pos c, if_pos (by show some e2.kept = some 0; rw [c])]
              · have nc : ¬ (Option.map Cell.kept (some e2) = some 0) := fun z => c (Option.some.inj z)
                rw [if_neg c, if_neg nc]
            refine ⟨rfl, _, rfl, t, _, 0, _, rfl, rfl, SqT.of ht, atI_nat (j := 0) rfl, rfl, _, rfl, ?_⟩
            rw [dstr, decide_eq_true rfl]
            refine iteT ⟨_, rfl, a, _, 2, _, rfl, rfl, SqT.of (sxz _ _ ha), atI_nat (j := 2) rfl, _, rfl, t, _, 1, _, rfl, rfl, SqT.of ht, atI_nat (j := 1) rfl, rw, _, _, _, rfl, rfl, SqL.of (sxz _ _ hR), atI_nat hu2, a2, _, 3, _, rfl, rfl, SqT.of ha2, atI_nat (j := 3) rfl, rfl, _, rfl, ?_⟩
            rw [show decide (V.int e2.kept = V.int 0) = decide (e2.kept = 0) from decide_eq_decide.mpr ⟨fun h => V.int.inj h, fun h => by rw [h]⟩]
            by_cases c0 : e2.kept = 0
            · rw [decide_eq_true c0]
              rw [if_pos c0] at uo
              refine iteT ⟨_, rfl, t, _, 1, _, rfl, rfl, SqT.of ht, atI_nat (j := 1) rfl, _, hD, ?_, same_mut sz nD, ?_⟩
              · rw [vn_len]
                have := List.length_filterMap_le (useOf c.rows) (e.src.take j)
                rw [List.length_take] at this
                exact small1000 (by omega)
              · rw [upd_same, take_snoc hs, List.filterMap_append, vn_snoc]
                have : [Sce.cel (n : Int)].filterMap (useOf c.rows) = [n] := by simp [uo]
                rw [this]
            · rw [decide_eq_false c0]
              rw [if_neg c0] at uo
              exact iteF (no uo)
        rintro Hz ⟨sz, hD⟩
        rw [hts.len, List.take_length, ← usesOf_at he] at hD
        refine ⟨D, rfl, sz, ?_, (ne_of_none hLx2 nD).symm⟩
        rw [hD, uses0_yes he k0]
      rintro σ Hy ⟨rr, rfl, sy, hrr, rrL⟩
      have s1y := s1.trans sy
      have hLy := s1y _ _ hLx
      refine ⟨_, rfl, .inl ⟨rfl, _, SqL.of hLy⟩, _, rfl, L, _, _, rfl, rfl, hLy, by rw [drs.len]; exact small1000 (by omega), ?_⟩
      have hm : Same (hid L Hy) (hid L (upd Hy L (.lst (rs ++ [.ref rr])))) := hid_mut
      refine ⟨some (.int (k : Nat)), some (.ref rr), rs ++ [.ref rr], rss ++ [uses0 c.rows k], rfl, same_mut (sx.trans s1y) nL, upd_same, (((drs.same (hid_mono s1y)).app (.cons (Dv.natl (hid_of rrL hrr)) .nil)).same hm), by rw [List.length_append, lrs]; rfl, fun j r h => ?_⟩
      by_cases c1 : j < k
      · rw [List.getElem?_append_left (by omega)] at h
        exact eqs j r h
      · rw [List.getElem?_append_right (by omega), lrs] at h
        have : j = k := by
          by_cases z : j - k = 0
          · omega
          · obtain ⟨m, em⟩ : ∃ m, j - k = m + 1 := ⟨j - k - 1, by omega⟩
            rw [em] at h
            simp at h
        subst this
        rw [Nat.sub_self] at h
        cases h
        rfl
    rintro σ H2 ⟨y3, y4, rs, rss, rfl, s2, hL2, drs, lrs, eqs⟩
    clear hL sL
    have gf := uses0_gf (rows := c.rows) (by omega)
    have start : CS c.rows 0 0 rss := ⟨lrs, fun j r h => ⟨by rw [eqs j r h]; exact CI.first j, by rw [eqs j r h]; exact uses0_len (fun e he => Nat.le_trans (few e he) (by decide)) j, fun x hx => by rw [eqs j r h] at hx; exact uses0_lt hx⟩, fun j h => absurd h (Nat.not_lt_zero _)⟩
    clear eqs lrs
    refine ⟨_, rfl, _, rfl, by omega, by omega, for_range (n := c.rows.length) (fun t σ Hx => ∃ (y3 y5 y6 : Option V) (rs : List V) (rss : List (List Nat)), σ = [some (.ref a), some (.int (c.rows.length : Nat)), some (.ref L), y3, y4, y5, y6, none] ∧ Same H Hx ∧ Hx L = some (.lst rs) ∧ Dvs (hid L Hx) rs rss ∧ CS c.rows t 0 rss) ⟨y3, none, none, rs, rss, rfl, s2, hL2, drs, start⟩ ?_ ?_⟩
    · rintro t σ Hx ht ⟨y3, y5, y6, rs, rss, rfl, sx, hLx, drs, cs⟩
      refine ⟨_, rfl, _, rfl, by omega, by omega, for_range (n := c.rows.length) (fun k σ Hz => ∃ (y3 y6 : Option V) (rs : List V) (rss : List (List Nat)), σ = [some (.ref a), some (.int (c.rows.length : Nat)), some (.ref L), y3, y4, some (.int ((0 : Int) + (t : Nat))), y6, none] ∧ Same H Hz ∧ Hz L = some (.lst rs) ∧ Dvs (hid L Hz) rs rss ∧ CS c.rows t k rss) ⟨y3, y6, rs, rss, rfl, sx, hLx, drs, cs⟩ ?_ ?_⟩
      · rintro k σ Hz hk ⟨y3, y6, rs, rss, rfl, sz, hLz, drs, cs⟩
        rw [Int.zero_add]
        have hk2 : k < rss.length := by rw [cs.len]; exact hk
        have hr := List.getElem?_eq_getElem hk2
        generalize rss[k] = r at hr
        obtain ⟨v, hv1, dv1⟩ := drs.get hr
        obtain ⟨ar, rfl, har⟩ := Dv.natl_inv dv1
        obtain ⟨arL, har⟩ := hid_some har
        refine ⟨_, rfl, _, rfl, L, _, _, _, rfl, rfl, SqL.of hLz, atI_nat hv1, ar, _, rfl, .inl (SqL.of har), fun C nC => ?_⟩
        have sC := same_new (o := .lst (vn r)) nC
        have hC : (upd Hz C (.lst (vn r))) C = some (.lst (vn r)) := upd_same
        have hLC := sC _ _ hLz
        have CL : C ≠ L := (ne_of_none hLz nC).symm
        generalize (upd Hz C (.lst (vn r))) = H5 at sC hC hLC ⊢
        have drs5 := drs.same (hid_mono sC)
        refine ⟨C, rfl, ⟨_, SqL.of hC⟩, for_list (xs := vn r) (fun i σ Hw => ∃ (y6 : Option V) (rs : List V) (rss' : List (List Nat)), σ = [some (.ref a), some (.int (c.rows.length : Nat)), some (.ref L), some (.int (k : Nat)), y4, some (.int ((0 : Int) + (t : Nat))), y6, none] ∧ Same H Hw ∧ Hw C = some (.lst (vn r)) ∧ Hw L = some (.lst rs) ∧ Dvs (hid L Hw) rs rss' ∧ CT c.rows t k r i rss') ⟨y6, rs, rss, rfl, sz.trans sC, hC, hLC, drs5, cs.start n20 hr⟩ (fun i σ Hw _ h => ?_) ?_ ?_⟩
        · obtain ⟨_, _, _, _, _, h, _⟩ := h
          exact SqL.of h
        · rintro i w σ Hw hw ⟨y6, rs, rss', rfl, sw, hCw, hLw, drw, ct⟩
          obtain ⟨o, eo, rfl, om⟩ := nat_at' hw
          obtain ⟨ol, rk, ro, hrk, hro, lk, lo⟩ := ct.at eo
          obtain ⟨v1, hv1, dv1⟩ := drw.get hrk
          obtain ⟨v2, hv2, dv2⟩ := drw.get hro
          obtain ⟨ak, rfl, hak⟩ := Dv.natl_inv dv1
          obtain ⟨ao, rfl, hao⟩ := Dv.natl_inv dv2
          obtain ⟨_, hak⟩ := hid_some hak
          obtain ⟨_, hao⟩ := hid_some hao
          refine ⟨_, rfl, _, rfl, L, _, _, _, rfl, rfl, SqL.of hLw, atI_nat hv1, _, rfl, _, rfl, L, _, _, _, rfl, rfl, SqL.of hLw, atI_nat hv2, ak, ao, _, _, rfl, rfl, hak, hao, by rw [vn_len, vn_len]; exact Nat.le_of_lt (small1000 (by omega)), fun Z nZ => ?_⟩
          rw [vn_cat']
          have sZ := same_new (o := .lst (vn (rk ++ ro))) nZ
          refine tSS (sorted_set_nat (xs := rk ++ ro) upd_same (by rw [List.length_append]; omega) fun p ys H6 s6 np hp asc mem ly => ?_)
          have s56 := sZ.trans s6
          have hL6 := s56 _ _ hLw
          have pL : p ≠ L := fun e => by
            rw [e] at np
            rw [sZ _ _ hLw] at np
            cases np
          have kl : k < rs.length := (List.getElem?_eq_some_iff.mp hv1).1
          refine ⟨_, rfl, _, rfl, L, rs, _, k, rfl, rfl, hL6, ix_nat kl, ?_⟩
          have hm : Same (hid L H6) (hid L (upd H6 L (.lst (rs.set k (.ref p))))) := hid_mut
          refine ⟨_, rs.set k (.ref p), rss'.set k ys, rfl, same_mut (sw.trans s56) nL, (upd_ne CL).trans (s56 _ _ hCw), upd_same, (Dvs.put (Dv.natl (hid_of pL hp)) k (drw.same (hid_mono s56))).same hm, ct.put eo hrk hro asc fun x => (mem x).trans List.mem_append⟩
        rintro σ Hw ⟨y6, rs, rss', rfl, sw, hCw, hLw, drw, ct⟩
        rw [vn_len] at ct
        exact ⟨_, y6, rs, rss', rfl, sw, hLw, drw, ct.done⟩
      · rintro σ Hz ⟨y3, y6, rs, rss, rfl, sz, hLz, drs, cs⟩
        exact ⟨y3, _, y6, rs, rss, rfl, sz, hLz, drs, cs.next⟩
    rintro σ H3 ⟨y3, y5, y6, rs, rss, rfl, s3, hL3, drs, cs⟩
    -- which lead back
    refine ⟨_, rfl, _, rfl, by omega, by omega, fun D nD => lc_range (n := c.rows.length) (fun k Hz => Same H3 Hz ∧ Hz D = some (.lst (vn ((List.range k).filter fun k => decide (k ∈ rss[k]?.getD []))))) ⟨same_new nD, upd_same⟩ ?_ ?_⟩
    · rintro k Hz hk ⟨sz, hD⟩
      show gName 3 (V.int ((0 : Int) + (k : Nat))) _ _ _
      rw [Int.zero_add]
      have hk2 : k < rss.length := by rw [cs.len]; exact hk
      have hr := List.getElem?_eq_getElem hk2
      generalize rss[k] = r at hr
      obtain ⟨v, hv1, dv1⟩ := drs.get hr
      obtain ⟨ar, rfl, har⟩ := Dv.natl_inv dv1
      obtain ⟨_, har⟩ := hid_some har
      refine ⟨rfl, _, rfl, _, rfl, _, rfl, L, _, _, _, rfl, rfl, SqL.of (sz _ _ hL3), atI_nat hv1, ar, _, rfl, .inl (SqL.of (sz _ _ har)), rfl, flat_vn r, _, rfl, ?_⟩
      have fs : (List.range (k + 1)).filter (fun k => decide (k ∈ rss[k]?.getD [])) = (List.range k).filter (fun k => decide (k ∈ rss[k]?.getD [])) ++ if k ∈ r then [k] else [] := by
        rw [List.range_succ, List.filter_append, List.filter_cons, hr]
        by_cases m : k ∈ r
        · rw [if_pos m, if_pos (by show decide (k ∈ r) = true; exact decide_eq_true m)]
          rfl
        · rw [if_neg m, if_neg (by show ¬ decide (k ∈ r) = true; rw [decide_eq_false m]; decide)]
          rfl
      rw [if_neg (by decide), inV_vn]
      by_cases m : k ∈ r
      · rw [decide_eq_true m]
        refine iteT ⟨_, rfl, _, hD, ?_, same_mut sz nD, ?_⟩
        · rw [vn_len]
          have := List.length_filter_le (fun k => decide (k ∈ rss[k]?.getD [])) (List.range k)
          rw [List.length_range] at this
          exact small1000 (by omega)
        · rw [upd_same, fs, if_pos m, vn_snoc]
      · rw [decide_eq_false m]
        refine iteF ⟨sz, ?_⟩
        rw [hD, fs, if_neg m, List.append_nil]
    rintro H4 ⟨s4, hD⟩
    refine q H4 D _ (s3.trans s4) (none_of s3 nD) hD ((asc_range _).filter _) fun y => ?_
    rw [List.mem_filter, List.mem_range, decide_eq_true_eq]
    unfold circ
    refine and_congr_right fun hy => ?_
    obtain ⟨r, hr⟩ : ∃ r, rss[y]? = some r := ⟨_, List.getElem?_eq_getElem (by rw [cs.len]; exact hy)⟩
    rw [hr, Option.getD_some]
    exact ((cs.ok y r hr).1.done gf (List.mem_range.mpr hy) (by rw [List.length_range]; omega)).trans (uses0_onc y)

end K48
namespace K48
open PySem PySem.Spec PyProof.Rows L2 V0
theorem all_mk {l : PySem.W.OpenLaw} {w : World} {K : PySem.W.Frag} {h : Heap} {mg : Str → Option Value} {fa f1 f2 f3 f4 f5 f6 f7 f8 f9 f10 f11 f12 f13 f14 f15 f16 f17 f18 f19 f20 f21 f22 f23 f24 : Addr} {C_KindError fI_KindError : Addr} {C_LoopError fI_LoopError : Addr} {B_ : Addr} (X : K.In h) (G : h.Ns mainGlobals mg) (hfa : mg "law" = some (.ref fa))
    {tk_MOST_SOURCES : Tok}
    {od_KindError an_KindError : Option Addr} {sl_KindError : Array (Option Value)} {oc_KindError kV_KindError dc_KindError pm_KindError cd_KindError ct_KindError : Value}
    {nm_KindError qn_KindError : Str} {N_KindError : Addr} {bs_KindError bm_KindError su_KindError : List Value} {sn_KindError : List Str} {ab_KindError : Bool} {co_KindError : Option Bool} {dd_KindError : Option Addr} {ka_KindError kb_KindError kc_KindError kd_KindError ke_KindError : Option Value}
    {od_LoopError an_LoopError : Option Addr} {sl_LoopError : Array (Option Value)} {oc_LoopError kV_LoopError dc_LoopError pm_LoopError cd_LoopError ct_LoopError : Value}
    {nm_LoopError qn_LoopError : Str} {N_LoopError : Addr} {bs_LoopError bm_LoopError su_LoopError : List Value} {sn_LoopError : List Str} {ab_LoopError : Bool} {co_LoopError : Option Bool} {dd_LoopError : Option Addr} {ka_LoopError kb_LoopError kc_LoopError kd_LoopError ke_LoopError : Option Value}
    {od1 an1 od2 an2 od3 an3 od4 an4 od5 an5 od6 an6 od7 an7 od8 an8 od9 an9 od10 an10 od11 an11 od12 an12 od13 an13 od14 an14 od15 an15 od16 an16 od17 an17 od18 an18 od19 an19 od20 an20 od21 an21 od22 an22 od23 an23 od24 an24 : Option Addr} {sl1 sl2 sl3 sl4 sl5 sl6 sl7 sl8 sl9 sl10 sl11 sl12 sl13 sl14 sl15 sl16 sl17 sl18 sl19 sl20 sl21 sl22 sl23 sl24 : Array (Option Value)} {oc1 kV1 dc1 pm1 cd1 ct1 oc2 kV2 dc2 pm2 cd2 ct2 oc3 kV3 dc3 pm3 cd3 ct3 oc4 kV4 dc4 pm4 cd4 ct4 oc5 kV5 dc5 pm5 cd5 ct5 oc6 kV6 dc6 pm6 cd6 ct6 oc7 kV7 dc7 pm7 cd7 ct7 oc8 kV8 dc8 pm8 cd8 ct8 oc9 kV9 dc9 pm9 cd9 ct9 oc10 kV10 dc10 pm10 cd10 ct10 oc11 kV11 dc11 pm11 cd11 ct11 oc12 kV12 dc12 pm12 cd12 ct12 oc13 kV13 dc13 pm13 cd13 ct13 oc14 kV14 dc14 pm14 cd14 ct14 oc15 kV15 dc15 pm15 cd15 ct15 oc16 kV16 dc16 pm16 cd16 ct16 oc17 kV17 dc17 pm17 cd17 ct17 oc18 kV18 dc18 pm18 cd18 ct18 oc19 kV19 dc19 pm19 cd19 ct19 oc20 kV20 dc20 pm20 cd20 ct20 oc21 kV21 dc21 pm21 cd21 ct21 oc22 kV22 dc22 pm22 cd22 ct22 oc23 kV23 dc23 pm23 cd23 ct23 oc24 kV24 dc24 pm24 cd24 ct24 : Value}
    (aB_ : PySem.W.nsIn K mainGlobals "ClothError" = some (some (.ref B_))) (gB_ : PySem.W.specialIn K (.ref B_) "__getattribute__" = some (some (.builtin "type.__getattribute__"))) (rB_ : PySem.W.readsIn K B_ (.type "type") = true) (vB_ : PySem.W.findCls K (.ref B_) (.type "type") "__init__" = some (.val (.builtin "ValueError.__init__"))) (qB_ : PySem.W.isClsIn K B_ = true) (yB_ : PySem.W.typeIn K (.ref B_) = some (.type "type"))
    (m_KindError : PySem.W.nsIn K mainGlobals "KindError" = some (some (.ref C_KindError))) (o_KindError : K.lookup C_KindError = some (excClassObj nm_KindError qn_KindError C_KindError N_KindError bs_KindError bm_KindError true sn_KindError su_KindError ab_KindError co_KindError dd_KindError ka_KindError kb_KindError kc_KindError kd_KindError ke_KindError "ValueError.__new__")) (v_KindError : PySem.HandSPX.refsVE bm_KindError = true)
    (i_KindError : PySem.W.findIn K (.ref C_KindError) "__init__" = some (some (.ref fI_KindError))) (l_KindError : K.lookup fI_KindError = some ⟨oc_KindError, od_KindError, .func (PySem.W.fnOf "__init__" "KindError.__init__" (defArgs s_XKindError) (defBody s_XKindError) (defScope s_XKindError) .none kV_KindError dc_KindError pm_KindError an_KindError cd_KindError ct_KindError), sl_KindError⟩) (c_KindError : PySem.W.codeIn K cd_KindError "KindError.__init__" = true) (k_KindError : PySem.W.keepIn K (.ref fI_KindError) = true) (t_KindError : PySem.W.typeIn K (.ref fI_KindError) = some (.type "function"))
    (s_KindError : PySem.W.findIn K (.ref C_KindError) "__setattr__" = some (some (.builtin "object.__setattr__"))) (e_KindError : PySem.W.subIn K (.ref C_KindError) (.type "BaseException") = some true) (y_KindError : PySem.W.typeIn K (.ref C_KindError) = some (.type "type")) (p_KindError : PySem.W.keepIn K (.ref C_KindError) = true) (n_KindError : PySem.W.findIn K (.ref C_KindError) "place" = some none)
    (u_KindError : PySem.W.findIn K (.ref C_KindError) "__getattribute__" = some (some (.builtin "BaseException.__getattribute__"))) (w_KindError : PySem.W.findIn K (.ref C_KindError) "__getattr__" = some none) (d_KindError : PySem.W.hasDictIn K C_KindError = true) (q_KindError : PySem.W.isClsIn K C_KindError = true) (xx_KindError : PySem.W.subIn K (.ref C_KindError) (.ref C_KindError) = some true) (sb_KindError : PySem.W.subIn K (.ref C_KindError) (.ref B_) = some true) (sv_KindError : PySem.W.subIn K (.ref C_KindError) (.type "ValueError") = some true)
    (ca_KindError : PySem.W.findIn K (.ref C_KindError) "__class__" = some (some (.builtin "object.__class__"))) (ch_KindError : PySem.W.mroIn K C_KindError (.type "object") = some true)
    (m_LoopError : PySem.W.nsIn K mainGlobals "LoopError" = some (some (.ref C_LoopError))) (o_LoopError : K.lookup C_LoopError = some (excClassObj nm_LoopError qn_LoopError C_LoopError N_LoopError bs_LoopError bm_LoopError true sn_LoopError su_LoopError ab_LoopError co_LoopError dd_LoopError ka_LoopError kb_LoopError kc_LoopError kd_LoopError ke_LoopError "ValueError.__new__")) (v_LoopError : PySem.HandSPX.refsVE bm_LoopError = true)
    (i_LoopError : PySem.W.findIn K (.ref C_LoopError) "__init__" = some (some (.ref fI_LoopError))) (l_LoopError : K.lookup fI_LoopError = some ⟨oc_LoopError, od_LoopError, .func (PySem.W.fnOf "__init__" "LoopError.__init__" (defArgs s_XLoopError) (defBody s_XLoopError) (defScope s_XLoopError) .none kV_LoopError dc_LoopError pm_LoopError an_LoopError cd_LoopError ct_LoopError), sl_LoopError⟩) (c_LoopError : PySem.W.codeIn K cd_LoopError "LoopError.__init__" = true) (k_LoopError : PySem.W.keepIn K (.ref fI_LoopError) = true) (t_LoopError : PySem.W.typeIn K (.ref fI_LoopError) = some (.type "function"))
    (s_LoopError : PySem.W.findIn K (.ref C_LoopError) "__setattr__" = some (some (.builtin "object.__setattr__"))) (e_LoopError : PySem.W.subIn K (.ref C_LoopError) (.type "BaseException") = some true) (y_LoopError : PySem.W.typeIn K (.ref C_LoopError) = some (.type "type")) (p_LoopError : PySem.W.keepIn K (.ref C_LoopError) = true) (n_LoopError : PySem.W.findIn K (.ref C_LoopError) "places" = some none)
    (u_LoopError : PySem.W.findIn K (.ref C_LoopError) "__getattribute__" = some (some (.builtin "BaseException.__getattribute__"))) (w_LoopError : PySem.W.findIn K (.ref C_LoopError) "__getattr__" = some none) (d_LoopError : PySem.W.hasDictIn K C_LoopError = true) (q_LoopError : PySem.W.isClsIn K C_LoopError = true) (xx_LoopError : PySem.W.subIn K (.ref C_LoopError) (.ref C_LoopError) = some true) (sb_LoopError : PySem.W.subIn K (.ref C_LoopError) (.ref B_) = some true) (sv_LoopError : PySem.W.subIn K (.ref C_LoopError) (.type "ValueError") = some true)
    (ca_LoopError : PySem.W.findIn K (.ref C_LoopError) "__class__" = some (some (.builtin "object.__class__"))) (ch_LoopError : PySem.W.mroIn K C_LoopError (.type "object") = some true)
    (xc_KindError_LoopError : PySem.W.subIn K (.ref C_KindError) (.ref C_LoopError) = some false)
    (xc_LoopError_KindError : PySem.W.subIn K (.ref C_LoopError) (.ref C_KindError) = some false)
    (cn_ : PySem.W.specialIn K (.builtin "object.__class__") "__get__" = some (some (.builtin "getset_descriptor.__get__"))) (ct_ : PySem.W.takesIn K (.builtin "object.__class__") = some true)
    (aI_MOST_SOURCES : PySem.W.nsIn K mainGlobals "MOST_SOURCES" = some (some (.int (4) tk_MOST_SOURCES)))
    (a1 : PySem.W.nsIn K mainGlobals "_law_state" = some (some (.ref f1))) (l1 : K.lookup f1 = some ⟨oc1, od1, .func (PySem.W.fnOf "_law_state" "_law_state" (defArgs s__law_state) (defBody s__law_state) (defScope s__law_state) .none kV1 dc1 pm1 an1 cd1 ct1), sl1⟩) (c1 : PySem.W.codeIn K cd1 "_law_state" = true) (k1 : PySem.W.keepIn K (.ref f1) = true)
    (a2 : PySem.W.nsIn K mainGlobals "_law_draw" = some (some (.ref f2))) (l2 : K.lookup f2 = some ⟨oc2, od2, .func (PySem.W.fnOf "_law_draw" "_law_draw" (defArgs s__law_draw) (defBody s__law_draw) (defScope s__law_draw) .none kV2 dc2 pm2 an2 cd2 ct2), sl2⟩) (c2 : PySem.W.codeIn K cd2 "_law_draw" = true) (k2 : PySem.W.keepIn K (.ref f2) = true)
    (a3 : PySem.W.nsIn K mainGlobals "_law_pick" = some (some (.ref f3))) (l3 : K.lookup f3 = some ⟨oc3, od3, .func (PySem.W.fnOf "_law_pick" "_law_pick" (defArgs s__law_pick) (defBody s__law_pick) (defScope s__law_pick) .none kV3 dc3 pm3 an3 cd3 ct3), sl3⟩) (c3 : PySem.W.codeIn K cd3 "_law_pick" = true) (k3 : PySem.W.keepIn K (.ref f3) = true)
    (a4 : PySem.W.nsIn K mainGlobals "_law_source" = some (some (.ref f4))) (l4 : K.lookup f4 = some ⟨oc4, od4, .func (PySem.W.fnOf "_law_source" "_law_source" (defArgs s__law_source) (defBody s__law_source) (defScope s__law_source) .none kV4 dc4 pm4 an4 cd4 ct4), sl4⟩) (c4 : PySem.W.codeIn K cd4 "_law_source" = true) (k4 : PySem.W.keepIn K (.ref f4) = true)
    (a5 : PySem.W.nsIn K mainGlobals "_law_cells" = some (some (.ref f5))) (l5 : K.lookup f5 = some ⟨oc5, od5, .func (PySem.W.fnOf "_law_cells" "_law_cells" (defArgs s__law_cells) (defBody s__law_cells) (defScope s__law_cells) .none kV5 dc5 pm5 an5 cd5 ct5), sl5⟩) (c5 : PySem.W.codeIn K cd5 "_law_cells" = true) (k5 : PySem.W.keepIn K (.ref f5) = true)
    (a6 : PySem.W.nsIn K mainGlobals "_law_there" = some (some (.ref f6))) (l6 : K.lookup f6 = some ⟨oc6, od6, .func (PySem.W.fnOf "_law_there" "_law_there" (defArgs s__law_there) (defBody s__law_there) (defScope s__law_there) .none kV6 dc6 pm6 an6 cd6 ct6), sl6⟩) (c6 : PySem.W.codeIn K cd6 "_law_there" = true) (k6 : PySem.W.keepIn K (.ref f6) = true)
    (a7 : PySem.W.nsIn K mainGlobals "_law_fault" = some (some (.ref f7))) (l7 : K.lookup f7 = some ⟨oc7, od7, .func (PySem.W.fnOf "_law_fault" "_law_fault" (defArgs s__law_fault) (defBody s__law_fault) (defScope s__law_fault) .none kV7 dc7 pm7 an7 cd7 ct7), sl7⟩) (c7 : PySem.W.codeIn K cd7 "_law_fault" = true) (k7 : PySem.W.keepIn K (.ref f7) = true)
    (a8 : PySem.W.nsIn K mainGlobals "_is_there" = some (some (.ref f8))) (l8 : K.lookup f8 = some ⟨oc8, od8, .func (PySem.W.fnOf "_is_there" "_is_there" (defArgs s__is_there) (defBody s__is_there) (defScope s__is_there) .none kV8 dc8 pm8 an8 cd8 ct8), sl8⟩) (c8 : PySem.W.codeIn K cd8 "_is_there" = true) (k8 : PySem.W.keepIn K (.ref f8) = true)
    (a9 : PySem.W.nsIn K mainGlobals "_cell_right" = some (some (.ref f9))) (l9 : K.lookup f9 = some ⟨oc9, od9, .func (PySem.W.fnOf "_cell_right" "_cell_right" (defArgs s__cell_right) (defBody s__cell_right) (defScope s__cell_right) .none kV9 dc9 pm9 an9 cd9 ct9), sl9⟩) (c9 : PySem.W.codeIn K cd9 "_cell_right" = true) (k9 : PySem.W.keepIn K (.ref f9) = true)
    (a10 : PySem.W.nsIn K mainGlobals "_finished_from" = some (some (.ref f10))) (l10 : K.lookup f10 = some ⟨oc10, od10, .func (PySem.W.fnOf "_finished_from" "_finished_from" (defArgs s__finished_from) (defBody s__finished_from) (defScope s__finished_from) .none kV10 dc10 pm10 an10 cd10 ct10), sl10⟩) (c10 : PySem.W.codeIn K cd10 "_finished_from" = true) (k10 : PySem.W.keepIn K (.ref f10) = true)
    (a11 : PySem.W.nsIn K mainGlobals "finished" = some (some (.ref f11))) (l11 : K.lookup f11 = some ⟨oc11, od11, .func (PySem.W.fnOf "finished" "finished" (defArgs s_finished) (defBody s_finished) (defScope s_finished) .none kV11 dc11 pm11 an11 cd11 ct11), sl11⟩) (c11 : PySem.W.codeIn K cd11 "finished" = true) (k11 : PySem.W.keepIn K (.ref f11) = true)
    (a12 : PySem.W.nsIn K mainGlobals "on_circles" = some (some (.ref f12))) (l12 : K.lookup f12 = some ⟨oc12, od12, .func (PySem.W.fnOf "on_circles" "on_circles" (defArgs s_on_circles) (defBody s_on_circles) (defScope s_on_circles) .none kV12 dc12 pm12 an12 cd12 ct12), sl12⟩) (c12 : PySem.W.codeIn K cd12 "on_circles" = true) (k12 : PySem.W.keepIn K (.ref f12) = true)
    (a13 : PySem.W.nsIn K mainGlobals "_uses" = some (some (.ref f13))) (l13 : K.lookup f13 = some ⟨oc13, od13, .func (PySem.W.fnOf "_uses" "_uses" (defArgs s__uses) (defBody s__uses) (defScope s__uses) .none kV13 dc13 pm13 an13 cd13 ct13), sl13⟩) (c13 : PySem.W.codeIn K cd13 "_uses" = true) (k13 : PySem.W.keepIn K (.ref f13) = true)
    (a14 : PySem.W.nsIn K mainGlobals "check_cells" = some (some (.ref f14))) (l14 : K.lookup f14 = some ⟨oc14, od14, .func (PySem.W.fnOf "check_cells" "check_cells" (defArgs s_check_cells) (defBody s_check_cells) (defScope s_check_cells) .none kV14 dc14 pm14 an14 cd14 ct14), sl14⟩) (c14 : PySem.W.codeIn K cd14 "check_cells" = true) (k14 : PySem.W.keepIn K (.ref f14) = true)
    (a15 : PySem.W.nsIn K mainGlobals "_law_circles" = some (some (.ref f15))) (l15 : K.lookup f15 = some ⟨oc15, od15, .func (PySem.W.fnOf "_law_circles" "_law_circles" (defArgs s__law_circles) (defBody s__law_circles) (defScope s__law_circles) .none kV15 dc15 pm15 an15 cd15 ct15), sl15⟩) (c15 : PySem.W.codeIn K cd15 "_law_circles" = true) (k15 : PySem.W.keepIn K (.ref f15) = true)
    (a16 : PySem.W.nsIn K mainGlobals "_law_table" = some (some (.ref f16))) (l16 : K.lookup f16 = some ⟨oc16, od16, .func (PySem.W.fnOf "_law_table" "_law_table" (defArgs s__law_table) (defBody s__law_table) (defScope s__law_table) .none kV16 dc16 pm16 an16 cd16 ct16), sl16⟩) (c16 : PySem.W.codeIn K cd16 "_law_table" = true) (k16 : PySem.W.keepIn K (.ref f16) = true)
    (a17 : PySem.W.nsIn K mainGlobals "_law_bit" = some (some (.ref f17))) (l17 : K.lookup f17 = some ⟨oc17, od17, .func (PySem.W.fnOf "_law_bit" "_law_bit" (defArgs s__law_bit) (defBody s__law_bit) (defScope s__law_bit) .none kV17 dc17 pm17 an17 cd17 ct17), sl17⟩) (c17 : PySem.W.codeIn K cd17 "_law_bit" = true) (k17 : PySem.W.keepIn K (.ref f17) = true)
    (a18 : PySem.W.nsIn K mainGlobals "_bit_of" = some (some (.ref f18))) (l18 : K.lookup f18 = some ⟨oc18, od18, .func (PySem.W.fnOf "_bit_of" "_bit_of" (defArgs s__bit_of) (defBody s__bit_of) (defScope s__bit_of) .none kV18 dc18 pm18 an18 cd18 ct18), sl18⟩) (c18 : PySem.W.codeIn K cd18 "_bit_of" = true) (k18 : PySem.W.keepIn K (.ref f18) = true)
    (a19 : PySem.W.nsIn K mainGlobals "_table_bit" = some (some (.ref f19))) (l19 : K.lookup f19 = some ⟨oc19, od19, .func (PySem.W.fnOf "_table_bit" "_table_bit" (defArgs s__table_bit) (defBody s__table_bit) (defScope s__table_bit) .none kV19 dc19 pm19 an19 cd19 ct19), sl19⟩) (c19 : PySem.W.codeIn K cd19 "_table_bit" = true) (k19 : PySem.W.keepIn K (.ref f19) = true)
    (a20 : PySem.W.nsIn K mainGlobals "_stepped" = some (some (.ref f20))) (l20 : K.lookup f20 = some ⟨oc20, od20, .func (PySem.W.fnOf "_stepped" "_stepped" (defArgs s__stepped) (defBody s__stepped) (defScope s__stepped) .none kV20 dc20 pm20 an20 cd20 ct20), sl20⟩) (c20 : PySem.W.codeIn K cd20 "_stepped" = true) (k20 : PySem.W.keepIn K (.ref f20) = true)
    (a21 : PySem.W.nsIn K mainGlobals "_order" = some (some (.ref f21))) (l21 : K.lookup f21 = some ⟨oc21, od21, .func (PySem.W.fnOf "_order" "_order" (defArgs s__order) (defBody s__order) (defScope s__order) .none kV21 dc21 pm21 an21 cd21 ct21), sl21⟩) (c21 : PySem.W.codeIn K cd21 "_order" = true) (k21 : PySem.W.keepIn K (.ref f21) = true)
    (a22 : PySem.W.nsIn K mainGlobals "step_cells" = some (some (.ref f22))) (l22 : K.lookup f22 = some ⟨oc22, od22, .func (PySem.W.fnOf "step_cells" "step_cells" (defArgs s_step_cells) (defBody s_step_cells) (defScope s_step_cells) .none kV22 dc22 pm22 an22 cd22 ct22), sl22⟩) (c22 : PySem.W.codeIn K cd22 "step_cells" = true) (k22 : PySem.W.keepIn K (.ref f22) = true)
    (a23 : PySem.W.nsIn K mainGlobals "run_cells" = some (some (.ref f23))) (l23 : K.lookup f23 = some ⟨oc23, od23, .func (PySem.W.fnOf "run_cells" "run_cells" (defArgs s_run_cells) (defBody s_run_cells) (defScope s_run_cells) .none kV23 dc23 pm23 an23 cd23 ct23), sl23⟩) (c23 : PySem.W.codeIn K cd23 "run_cells" = true) (k23 : PySem.W.keepIn K (.ref f23) = true)
    (a24 : PySem.W.nsIn K mainGlobals "law" = some (some (.ref f24))) (l24 : K.lookup f24 = some ⟨oc24, od24, .func (PySem.W.fnOf "law" "law" (defArgs s_law) (defBody s_law) (defScope s_law) .none kV24 dc24 pm24 an24 cd24 ct24), sl24⟩) (c24 : PySem.W.codeIn K cd24 "law" = true) (k24 : PySem.W.keepIn K (.ref f24) = true)
    (z_abs : PySem.W.nsIn K mainGlobals "abs" = some none)
    (z_all : PySem.W.nsIn K mainGlobals "all" = some none)
    (z_any : PySem.W.nsIn K mainGlobals "any" = some none)
    (z_enumerate : PySem.W.nsIn K mainGlobals "enumerate" = some none)
    (z_int : PySem.W.nsIn K mainGlobals "int" = some none)
    (z_isinstance : PySem.W.nsIn K mainGlobals "isinstance" = some none)
    (z_len : PySem.W.nsIn K mainGlobals "len" = some none)
    (z_list : PySem.W.nsIn K mainGlobals "list" = some none)
    (z_min : PySem.W.nsIn K mainGlobals "min" = some none)
    (z_range : PySem.W.nsIn K mainGlobals "range" = some none)
    (z_repr : PySem.W.nsIn K mainGlobals "repr" = some none)
    (z_reversed : PySem.W.nsIn K mainGlobals "reversed" = some none)
    (z_set : PySem.W.nsIn K mainGlobals "set" = some none)
    (z_sorted : PySem.W.nsIn K mainGlobals "sorted" = some none)
    (z_str : PySem.W.nsIn K mainGlobals "str" = some none)
    (z_sum : PySem.W.nsIn K mainGlobals "sum" = some none) :
    ∃ fd : FuncData, (∀ (s : Shared) (v : Value), BindsTo s fd ⟨[v], []⟩ [("script", v)]) ∧ ∀ base : Heap, K.In base → base.Ns mainGlobals mg → LawOk l.prog w K mg base fa fd ["script"] (sp_law K) := by
  have e := hfa.symm.trans (PySem.W.mg_of X G a24)
  cases e
  have FX_KindError := fun_mk (st := s_XKindError) l_KindError c_KindError k_KindError
  have XX_KindError : Exc K mg "KindError" C_KindError fI_KindError _ "place" := ⟨PySem.W.mg_of X G m_KindError, ⟨⟨nm_KindError, qn_KindError, N_KindError, bs_KindError, bm_KindError, sn_KindError, su_KindError, ab_KindError, co_KindError, dd_KindError, ka_KindError, kb_KindError, kc_KindError, kd_KindError, ke_KindError, o_KindError, v_KindError⟩, s_KindError, e_KindError, y_KindError, p_KindError⟩, i_KindError, t_KindError, FX_KindError.binds (ps := ["self", "place"]) fun _ _ _ _ _ _ us hl => match us, hl with | [_, _], _ => rfl, n_KindError, ⟨u_KindError, w_KindError, e_KindError, d_KindError⟩, q_KindError, xx_KindError⟩
  have FX_LoopError := fun_mk (st := s_XLoopError) l_LoopError c_LoopError k_LoopError
  have XX_LoopError : Exc K mg "LoopError" C_LoopError fI_LoopError _ "places" := ⟨PySem.W.mg_of X G m_LoopError, ⟨⟨nm_LoopError, qn_LoopError, N_LoopError, bs_LoopError, bm_LoopError, sn_LoopError, su_LoopError, ab_LoopError, co_LoopError, dd_LoopError, ka_LoopError, kb_LoopError, kc_LoopError, kd_LoopError, ke_LoopError, o_LoopError, v_LoopError⟩, s_LoopError, e_LoopError, y_LoopError, p_LoopError⟩, i_LoopError, t_LoopError, FX_LoopError.binds (ps := ["self", "places"]) fun _ _ _ _ _ _ us hl => match us, hl with | [_, _], _ => rfl, n_LoopError, ⟨u_LoopError, w_LoopError, e_LoopError, d_LoopError⟩, q_LoopError, xx_LoopError⟩
  have T : Txt K mg C_KindError fI_KindError _ C_LoopError fI_LoopError _ B_ (.type "type") tk_MOST_SOURCES := ⟨⟨PySem.W.mg_of X G aB_, gB_, rB_, vB_⟩, qB_, yB_, XX_KindError, ⟨⟨u_KindError, w_KindError, e_KindError, d_KindError⟩, q_KindError, ca_KindError, cn_, ct_, ch_KindError⟩, sb_KindError, sv_KindError, XX_LoopError, ⟨⟨u_LoopError, w_LoopError, e_LoopError, d_LoopError⟩, q_LoopError, ca_LoopError, cn_, ct_, ch_LoopError⟩, sb_LoopError, sv_LoopError, xc_KindError_LoopError, xc_LoopError_KindError, PySem.W.mg_of X G aI_MOST_SOURCES, PySem.W.mg_none_of X G z_abs, PySem.W.mg_none_of X G z_all, PySem.W.mg_none_of X G z_any, PySem.W.mg_none_of X G z_enumerate, PySem.W.mg_none_of X G z_int, PySem.W.mg_none_of X G z_isinstance, PySem.W.mg_none_of X G z_len, PySem.W.mg_none_of X G z_list, PySem.W.mg_none_of X G z_min, PySem.W.mg_none_of X G z_range, PySem.W.mg_none_of X G z_repr, PySem.W.mg_none_of X G z_reversed, PySem.W.mg_none_of X G z_set, PySem.W.mg_none_of X G z_sorted, PySem.W.mg_none_of X G z_str, PySem.W.mg_none_of X G z_sum⟩
  have F1 := fun_mk (st := s__law_state) l1 c1 k1
  have D1 : Def K mg "_law_state" f1 _ ["script"] := ⟨PySem.W.mg_of X G a1, F1.kp, F1.binds (ps := ["script"]) fun _ _ _ _ _ _ us hl => match us, hl with | [_], _ => rfl⟩
  have F2 := fun_mk (st := s__law_draw) l2 c2 k2
  have D2 : Def K mg "_law_draw" f2 _ ["state", "many"] := ⟨PySem.W.mg_of X G a2, F2.kp, F2.binds (ps := ["state", "many"]) fun _ _ _ _ _ _ us hl => match us, hl with | [_, _], _ => rfl⟩
  have F3 := fun_mk (st := s__law_pick) l3 c3 k3
  have D3 : Def K mg "_law_pick" f3 _ ["state", "row"] := ⟨PySem.W.mg_of X G a3, F3.kp, F3.binds (ps := ["state", "row"]) fun _ _ _ _ _ _ us hl => match us, hl with | [_, _], _ => rfl⟩
  have F4 := fun_mk (st := s__law_source) l4 c4 k4
  have D4 : Def K mg "_law_source" f4 _ ["state", "ins", "many", "wild"] := ⟨PySem.W.mg_of X G a4, F4.kp, F4.binds (ps := ["state", "ins", "many", "wild"]) fun _ _ _ _ _ _ us hl => match us, hl with | [_, _, _, _], _ => rfl⟩
  have F5 := fun_mk (st := s__law_cells) l5 c5 k5
  have D5 : Def K mg "_law_cells" f5 _ ["state"] := ⟨PySem.W.mg_of X G a5, F5.kp, F5.binds (ps := ["state"]) fun _ _ _ _ _ _ us hl => match us, hl with | [_], _ => rfl⟩
  have F6 := fun_mk (st := s__law_there) l6 c6 k6
  have D6 : Def K mg "_law_there" f6 _ ["cells", "source"] := ⟨PySem.W.mg_of X G a6, F6.kp, F6.binds (ps := ["cells", "source"]) fun _ _ _ _ _ _ us hl => match us, hl with | [_, _], _ => rfl⟩
  have F7 := fun_mk (st := s__law_fault) l7 c7 k7
  have D7 : Def K mg "_law_fault" f7 _ ["cells"] := ⟨PySem.W.mg_of X G a7, F7.kp, F7.binds (ps := ["cells"]) fun _ _ _ _ _ _ us hl => match us, hl with | [_], _ => rfl⟩
  have F8 := fun_mk (st := s__is_there) l8 c8 k8
  have D8 : Def K mg "_is_there" f8 _ ["cells", "source"] := ⟨PySem.W.mg_of X G a8, F8.kp, F8.binds (ps := ["cells", "source"]) fun _ _ _ _ _ _ us hl => match us, hl with | [_, _], _ => rfl⟩
  have F9 := fun_mk (st := s__cell_right) l9 c9 k9
  have D9 : Def K mg "_cell_right" f9 _ ["cells", "cell"] := ⟨PySem.W.mg_of X G a9, F9.kp, F9.binds (ps := ["cells", "cell"]) fun _ _ _ _ _ _ us hl => match us, hl with | [_, _], _ => rfl⟩
  have F10 := fun_mk (st := s__finished_from) l10 c10 k10
  have D10 : Def K mg "_finished_from" f10 _ ["first", "uses", "seen"] := ⟨PySem.W.mg_of X G a10, F10.kp, F10.binds (ps := ["first", "uses", "seen"]) fun _ _ _ _ _ _ us hl => match us, hl with | [_, _, _], _ => rfl⟩
  have F11 := fun_mk (st := s_finished) l11 c11 k11
  have D11 : Def K mg "finished" f11 _ ["names", "uses"] := ⟨PySem.W.mg_of X G a11, F11.kp, F11.binds (ps := ["names", "uses"]) fun _ _ _ _ _ _ us hl => match us, hl with | [_, _], _ => rfl⟩
  have F12 := fun_mk (st := s_on_circles) l12 c12 k12
  have D12 : Def K mg "on_circles" f12 _ ["names", "uses"] := ⟨PySem.W.mg_of X G a12, F12.kp, F12.binds (ps := ["names", "uses"]) fun _ _ _ _ _ _ us hl => match us, hl with | [_, _], _ => rfl⟩
  have F13 := fun_mk (st := s__uses) l13 c13 k13
  have D13 : Def K mg "_uses" f13 _ ["rows"] := ⟨PySem.W.mg_of X G a13, F13.kp, F13.binds (ps := ["rows"]) fun _ _ _ _ _ _ us hl => match us, hl with | [_], _ => rfl⟩
  have F14 := fun_mk (st := s_check_cells) l14 c14 k14
  have D14 : Def K mg "check_cells" f14 _ ["cells"] := ⟨PySem.W.mg_of X G a14, F14.kp, F14.binds (ps := ["cells"]) fun _ _ _ _ _ _ us hl => match us, hl with | [_], _ => rfl⟩
  have F15 := fun_mk (st := s__law_circles) l15 c15 k15
  have D15 : Def K mg "_law_circles" f15 _ ["cells"] := ⟨PySem.W.mg_of X G a15, F15.kp, F15.binds (ps := ["cells"]) fun _ _ _ _ _ _ us hl => match us, hl with | [_], _ => rfl⟩
  have F16 := fun_mk (st := s__law_table) l16 c16 k16
  have D16 : Def K mg "_law_table" f16 _ ["cells", "at", "held", "bits"] := ⟨PySem.W.mg_of X G a16, F16.kp, F16.binds (ps := ["cells", "at", "held", "bits"]) fun _ _ _ _ _ _ us hl => match us, hl with | [_, _, _, _], _ => rfl⟩
  have F17 := fun_mk (st := s__law_bit) l17 c17 k17
  have D17 : Def K mg "_law_bit" f17 _ ["cells", "source", "held", "bits"] := ⟨PySem.W.mg_of X G a17, F17.kp, F17.binds (ps := ["cells", "source", "held", "bits"]) fun _ _ _ _ _ _ us hl => match us, hl with | [_, _, _, _], _ => rfl⟩
  have F18 := fun_mk (st := s__bit_of) l18 c18 k18
  have D18 : Def K mg "_bit_of" f18 _ ["source", "outputs", "bits"] := ⟨PySem.W.mg_of X G a18, F18.kp, F18.binds (ps := ["source", "outputs", "bits"]) fun _ _ _ _ _ _ us hl => match us, hl with | [_, _, _], _ => rfl⟩
  have F19 := fun_mk (st := s__table_bit) l19 c19 k19
  have D19 : Def K mg "_table_bit" f19 _ ["cell", "outputs", "bits"] := ⟨PySem.W.mg_of X G a19, F19.kp, F19.binds (ps := ["cell", "outputs", "bits"]) fun _ _ _ _ _ _ us hl => match us, hl with | [_, _, _], _ => rfl⟩
  have F20 := fun_mk (st := s__stepped) l20 c20 k20
  have D20 : Def K mg "_stepped" f20 _ ["cells", "order", "state", "bits"] := ⟨PySem.W.mg_of X G a20, F20.kp, F20.binds (ps := ["cells", "order", "state", "bits"]) fun _ _ _ _ _ _ us hl => match us, hl with | [_, _, _, _], _ => rfl⟩
  have F21 := fun_mk (st := s__order) l21 c21 k21
  have D21 : Def K mg "_order" f21 _ ["cells"] := ⟨PySem.W.mg_of X G a21, F21.kp, F21.binds (ps := ["cells"]) fun _ _ _ _ _ _ us hl => match us, hl with | [_], _ => rfl⟩
  have F22 := fun_mk (st := s_step_cells) l22 c22 k22
  have D22 : Def K mg "step_cells" f22 _ ["cells", "state", "bits"] := ⟨PySem.W.mg_of X G a22, F22.kp, F22.binds (ps := ["cells", "state", "bits"]) fun _ _ _ _ _ _ us hl => match us, hl with | [_, _, _], _ => rfl⟩
  have F23 := fun_mk (st := s_run_cells) l23 c23 k23
  have D23 : Def K mg "run_cells" f23 _ ["cells", "rows"] := ⟨PySem.W.mg_of X G a23, F23.kp, F23.binds (ps := ["cells", "rows"]) fun _ _ _ _ _ _ us hl => match us, hl with | [_, _], _ => rfl⟩
  have F24 := fun_mk (st := s_law) l24 c24 k24
  refine ⟨PySem.W.fnOf "law" "law" (defArgs s_law) (defBody s_law) (defScope s_law) .none kV24 dc24 pm24 an24 cd24 ct24, fun s v => .of_eq rfl, fun base _ _ => ?_⟩
  have GX_KindError : FnOk l.prog w K mg base CX0 1 fI_KindError _ ["self", "place"] (spExc K "place") := ok_XKindError FX_KindError T
  have GX_LoopError : FnOk l.prog w K mg base CX0 1 fI_LoopError _ ["self", "places"] (spExcL K "places") := ok_XLoopError FX_LoopError T
  have G1 : FnOk l.prog w K mg base CX0 1 f1 _ ["script"] (sp__law_state K) := ok__law_state F1 T 
  have G2 : FnOk l.prog w K mg base CX0 1 f2 _ ["state", "many"] (sp__law_draw K) := ok__law_draw F2 T 
  have G3 : FnOk l.prog w K mg base CX0 2 f3 _ ["state", "row"] (sp__law_pick K) := ok__law_pick F3 T G2 D2
  have G4 : FnOk l.prog w K mg base CX0 3 f4 _ ["state", "ins", "many", "wild"] (sp__law_source K) := ok__law_source F4 T G3 D3
  have G5 : FnOk l.prog w K mg base CX0 4 f5 _ ["state"] (sp__law_cells K) := ok__law_cells F5 T G2 D2 G4 D4 G3 D3
  have G6 : FnOk l.prog w K mg base CX0 1 f6 _ ["cells", "source"] (sp__law_there K) := ok__law_there F6 T 
  have G7 : FnOk l.prog w K mg base CX0 2 f7 _ ["cells"] (sp__law_fault K) := ok__law_fault F7 T G6 D6
  have G8 : FnOk l.prog w K mg base CX0 1 f8 _ ["cells", "source"] (sp__is_there K) := ok__is_there F8 T 
  have G9 : FnOk l.prog w K mg base CX0 2 f9 _ ["cells", "cell"] (sp__cell_right K) := ok__cell_right F9 T G8 D8
  have G10 : FnOk l.prog w K mg base CX0 1 f10 _ ["first", "uses", "seen"] (sp__finished_from K) := ok__finished_from F10 T 
  have G11 : FnOk l.prog w K mg base CX0 2 f11 _ ["names", "uses"] (sp_finished K) := ok_finished F11 T G10 D10
  have G12 : FnOk l.prog w K mg base CX0 3 f12 _ ["names", "uses"] (sp_on_circles K) := ok_on_circles F12 T G11 D11 G10 D10
  have G13 : FnOk l.prog w K mg base CX0 1 f13 _ ["rows"] (sp__uses K) := ok__uses F13 T 
  have G14 : FnOk l.prog w K mg base (L2N.CX l.prog w) 6 f14 _ ["cells"] (sp_check_cells K C_KindError C_LoopError) := ok_check_cells F14 T G9 D9 G8 D8 G12 D12 G13 D13 GX_LoopError GX_KindError GX_KindError
  have G15 : FnOk l.prog w K mg base CX0 1 f15 _ ["cells"] (sp__law_circles K) := ok__law_circles F15 T 
  have GH15 : L2H.FnH l.prog w K mg base CX0 1 f15 _ ["cells"] (sp__law_circles K) := okH__law_circles F15 T 
  have G16 : FnOk l.prog w K mg base CX0 24 f16 _ ["cells", "at", "held", "bits"] (sp__law_table K) := (tb_pair F16 F17 T D16 D17).1
  have G17 : FnOk l.prog w K mg base CX0 25 f17 _ ["cells", "source", "held", "bits"] (sp__law_bit K) := (tb_pair F16 F17 T D16 D17).2
  have G18 : FnOk l.prog w K mg base CX0 1 f18 _ ["source", "outputs", "bits"] (sp__bit_of K) := ok__bit_of F18 T 
  have G19 : FnOk l.prog w K mg base CX0 2 f19 _ ["cell", "outputs", "bits"] (sp__table_bit K) := ok__table_bit F19 T G18 D18
  have G20 : FnOk l.prog w K mg base CX0 3 f20 _ ["cells", "order", "state", "bits"] (sp__stepped K) := ok__stepped F20 T G19 D19 G18 D18
  have G21 : FnOk l.prog w K mg base CX0 3 f21 _ ["cells"] (sp__order K) := ok__order F21 T G11 D11 G13 D13
  have G22 : FnOk l.prog w K mg base CX0 4 f22 _ ["cells", "state", "bits"] (sp_step_cells K) := ok_step_cells F22 T G20 D20 G21 D21
  have G23 : FnOk l.prog w K mg base CX0 4 f23 _ ["cells", "rows"] (sp_run_cells K) := ok_run_cells F23 T G21 D21 G20 D20
  exact ok_law F24 T G1 D1 G5 D5 G7 D7 G14 D14 G15 D15 G2 D2 G17 D17 G16 D16 G22 D22 G23 D23 GH15
end K48
open PySem PySem.W PyProof.Rows
set_option maxHeartbeats 0 in
theorem PySem.Challenge.cw_cellcloth_k48_whole_runs_of_cells_holds : PySem.Challenge.rw_cellcloth_k48_whole_runs_of_cells.Holds := by
  w_on; o_law; k_head; (case hw => w_witness2)
  k_fill
  refine V0.walk_at (l := PySem.Challenge.rw_cellcloth_k48_whole_runs_of_cells) (n := 63) (x := "script") (sp := K48.sp_law) rfl (by decide) rfl (fun w h Y => PySem.W.kIn_of Y) ?F (fun _ _ a ns hl _ hS => ⟨a, ns, rfl, hS, hl, fun _ => rfl⟩)
  case F =>
    intro w mg fa h KX G hmg
    refine' K48.all_mk KX G hmg ?aB_ ?gB_ ?rB_ ?vB_ ?qB_ ?yB_ ?m_KindError ?o_KindError ?v_KindError ?i_KindError ?l_KindError ?c_KindError ?k_KindError ?t_KindError ?s_KindError ?e_KindError ?y_KindError ?p_KindError ?n_KindError ?u_KindError ?w_KindError ?d_KindError ?q_KindError ?xx_KindError ?sb_KindError ?sv_KindError ?ca_KindError ?ch_KindError ?m_LoopError ?o_LoopError ?v_LoopError ?i_LoopError ?l_LoopError ?c_LoopError ?k_LoopError ?t_LoopError ?s_LoopError ?e_LoopError ?y_LoopError ?p_LoopError ?n_LoopError ?u_LoopError ?w_LoopError ?d_LoopError ?q_LoopError ?xx_LoopError ?sb_LoopError ?sv_LoopError ?ca_LoopError ?ch_LoopError ?xc_KindError_LoopError ?xc_LoopError_KindError ?cn_ ?ct_ ?aI_MOST_SOURCES ?a1 ?l1 ?c1 ?k1 ?a2 ?l2 ?c2 ?k2 ?a3 ?l3 ?c3 ?k3 ?a4 ?l4 ?c4 ?k4 ?a5 ?l5 ?c5 ?k5 ?a6 ?l6 ?c6 ?k6 ?a7 ?l7 ?c7 ?k7 ?a8 ?l8 ?c8 ?k8 ?a9 ?l9 ?c9 ?k9 ?a10 ?l10 ?c10 ?k10 ?a11 ?l11 ?c11 ?k11 ?a12 ?l12 ?c12 ?k12 ?a13 ?l13 ?c13 ?k13 ?a14 ?l14 ?c14 ?k14 ?a15 ?l15 ?c15 ?k15 ?a16 ?l16 ?c16 ?k16 ?a17 ?l17 ?c17 ?k17 ?a18 ?l18 ?c18 ?k18 ?a19 ?l19 ?c19 ?k19 ?a20 ?l20 ?c20 ?k20 ?a21 ?l21 ?c21 ?k21 ?a22 ?l22 ?c22 ?k22 ?a23 ?l23 ?c23 ?k23 ?a24 ?l24 ?c24 ?k24 ?z_abs ?z_all ?z_any ?z_enumerate ?z_int ?z_isinstance ?z_len ?z_list ?z_min ?z_range ?z_repr ?z_reversed ?z_set ?z_sorted ?z_str ?z_sum
    (case aB_ => k_is)
    (case gB_ => k_is)
    (case rB_ => k_is)
    (case vB_ => k_is)
    (case qB_ => k_is)
    (case yB_ => k_is)
    (case m_KindError => k_is)
    (case o_KindError => k_is)
    (case v_KindError => exact rfl)
    (case i_KindError => k_is)
    (case l_KindError => k_is)
    (case c_KindError => k_is)
    (case k_KindError => k_is)
    (case t_KindError => k_is)
    (case s_KindError => k_is)
    (case e_KindError => k_is)
    (case y_KindError => k_is)
    (case p_KindError => k_is)
    (case n_KindError => k_is)
    (case u_KindError => k_is)
    (case w_KindError => k_is)
    (case d_KindError => k_is)
    (case q_KindError => k_is)
    (case xx_KindError => k_is)
    (case sb_KindError => k_is)
    (case sv_KindError => k_is)
    (case ca_KindError => k_is)
    (case ch_KindError => k_is)
    (case m_LoopError => k_is)
    (case o_LoopError => k_is)
    (case v_LoopError => exact rfl)
    (case i_LoopError => k_is)
    (case l_LoopError => k_is)
    (case c_LoopError => k_is)
    (case k_LoopError => k_is)
    (case t_LoopError => k_is)
    (case s_LoopError => k_is)
    (case e_LoopError => k_is)
    (case y_LoopError => k_is)
    (case p_LoopError => k_is)
    (case n_LoopError => k_is)
    (case u_LoopError => k_is)
    (case w_LoopError => k_is)
    (case d_LoopError => k_is)
    (case q_LoopError => k_is)
    (case xx_LoopError => k_is)
    (case sb_LoopError => k_is)
    (case sv_LoopError => k_is)
    (case ca_LoopError => k_is)
    (case ch_LoopError => k_is)
    (case xc_KindError_LoopError => k_is)
    (case xc_LoopError_KindError => k_is)
    (case cn_ => k_is)
    (case ct_ => k_is)
    (case aI_MOST_SOURCES => k_is)
    (case a1 => k_is)
    (case l1 => k_is)
    (case c1 => k_is)
    (case k1 => k_is)
    (case a2 => k_is)
    (case l2 => k_is)
    (case c2 => k_is)
    (case k2 => k_is)
    (case a3 => k_is)
    (case l3 => k_is)
    (case c3 => k_is)
    (case k3 => k_is)
    (case a4 => k_is)
    (case l4 => k_is)
    (case c4 => k_is)
    (case k4 => k_is)
    (case a5 => k_is)
    (case l5 => k_is)
    (case c5 => k_is)
    (case k5 => k_is)
    (case a6 => k_is)
    (case l6 => k_is)
    (case c6 => k_is)
    (case k6 => k_is)
    (case a7 => k_is)
    (case l7 => k_is)
    (case c7 => k_is)
    (case k7 => k_is)
    (case a8 => k_is)
    (case l8 => k_is)
    (case c8 => k_is)
    (case k8 => k_is)
    (case a9 => k_is)
    (case l9 => k_is)
    (case c9 => k_is)
    (case k9 => k_is)
    (case a10 => k_is)
    (case l10 => k_is)
    (case c10 => k_is)
    (case k10 => k_is)
    (case a11 => k_is)
    (case l11 => k_is)
    (case c11 => k_is)
    (case k11 => k_is)
    (case a12 => k_is)
    (case l12 => k_is)
    (case c12 => k_is)
    (case k12 => k_is)
    (case a13 => k_is)
    (case l13 => k_is)
    (case c13 => k_is)
    (case k13 => k_is)
    (case a14 => k_is)
    (case l14 => k_is)
    (case c14 => k_is)
    (case k14 => k_is)
    (case a15 => k_is)
    (case l15 => k_is)
    (case c15 => k_is)
    (case k15 => k_is)
    (case a16 => k_is)
    (case l16 => k_is)
    (case c16 => k_is)
    (case k16 => k_is)
    (case a17 => k_is)
    (case l17 => k_is)
    (case c17 => k_is)
    (case k17 => k_is)
    (case a18 => k_is)
    (case l18 => k_is)
    (case c18 => k_is)
    (case k18 => k_is)
    (case a19 => k_is)
    (case l19 => k_is)
    (case c19 => k_is)
    (case k19 => k_is)
    (case a20 => k_is)
    (case l20 => k_is)
    (case c20 => k_is)
    (case k20 => k_is)
    (case a21 => k_is)
    (case l21 => k_is)
    (case c21 => k_is)
    (case k21 => k_is)
    (case a22 => k_is)
    (case l22 => k_is)
    (case c22 => k_is)
    (case k22 => k_is)
    (case a23 => k_is)
    (case l23 => k_is)
    (case c23 => k_is)
    (case k23 => k_is)
    (case a24 => k_is)
    (case l24 => k_is)
    (case c24 => k_is)
    (case k24 => k_is)
    (case z_abs => k_is)
    (case z_all => k_is)
    (case z_any => k_is)
    (case z_enumerate => k_is)
    (case z_int => k_is)
    (case z_isinstance => k_is)
    (case z_len => k_is)
    (case z_list => k_is)
    (case z_min => k_is)
    (case z_range => k_is)
    (case z_repr => k_is)
    (case z_reversed => k_is)
    (case z_set => k_is)
    (case z_sorted => k_is)
    (case z_str => k_is)
    (case z_sum => k_is)
