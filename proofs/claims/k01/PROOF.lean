import PyProof.Rows.All
import Wide.All
import OpenK.AllK
import Wide.FinOn
import HandS.ForMost
import HandS.IsInst
import HandS.WideBits
import PySem.Challenge.RW_cellcloth_k01_signs_on_words
import HandS.Codes
set_option linter.all false
namespace K1
def bits (a : Nat) : Nat → List Nat
  | 0 => []
  | w + 1 => (a % 2) :: bits (a / 2) w
def num : List Nat → Nat
  | [] => 0
  | b :: r => b + 2 * num r
theorem bits_len (a w : Nat) : (bits a w).length = w := by
  induction w generalizing a with
  | zero => rfl
  | succ w ih => show (bits (a / 2) w).length + 1 = w + 1; rw [ih]
theorem bits_get (a w i : Nat) (h : i < w) : (bits a w)[i]? = some (a / 2 ^ i % 2) := by
  induction w generalizing a i with
  | zero => omega
  | succ w ih =>
    cases i with
    | zero => simp [bits]
    | succ i =>
      show (bits (a / 2) w)[i]? = _
      rw [ih _ _ (by omega), Nat.div_div_eq_div_mul, Nat.pow_succ, Nat.mul_comm 2]
theorem bits_eq (a w : Nat) : bits a w = (List.range w).map (fun i => a / 2 ^ i % 2) := by
  apply List.ext_getElem?
  intro i
  by_cases h : i < w
  · rw [bits_get a w i h]
    simp [h]
  · rw [List.getElem?_eq_none (by rw [bits_len]; omega), List.getElem?_eq_none (by simp; omega)]
theorem num_bits (a w : Nat) : num (bits a w) = a % 2 ^ w := by
  induction w generalizing a with
  | zero => simp [bits, num, Nat.mod_one]
  | succ w ih =>
    show a % 2 + 2 * num (bits (a / 2) w) = a % 2 ^ (w + 1)
    rw [ih, Nat.pow_succ, Nat.mul_comm (2 ^ w) 2, Nat.mod_mul]
theorem num_flip (a w : Nat) : num ((bits a w).map (fun b => 1 - b)) + a % 2 ^ w + 1 = 2 ^ w := by
  induction w generalizing a with
  | zero => simp [bits, num, Nat.mod_one]
  | succ w ih =>
    show (1 - a % 2) + 2 * num ((bits (a / 2) w).map (fun b => 1 - b)) + a % 2 ^ (w + 1) + 1 = 2 ^ (w + 1)
    have h := ih (a / 2)
    rw [Nat.pow_succ, Nat.mul_comm (2 ^ w) 2, Nat.mod_mul]
    omega
theorem bits_le (a w : Nat) : ∀ b ∈ bits a w, b < 2 := by
  intro b hb
  rw [bits_eq] at hb
  obtain ⟨i, _, rfl⟩ := List.mem_map.mp hb
  omega
theorem mem_one (a w : Nat) (h : a < 2 ^ w) : (1 ∈ bits a w) ↔ a ≠ 0 := by
  induction w generalizing a with
  | zero => simp [bits]; simp at h; omega
  | succ w ih =>
    show 1 ∈ (a % 2) :: bits (a / 2) w ↔ _
    rw [List.mem_cons, ih (a / 2) (by rw [Nat.pow_succ] at h; omega)]
    omega
theorem mem_zero (a w : Nat) (h : a < 2 ^ w) : (0 ∉ bits a w) ↔ a = 2 ^ w - 1 := by
  induction w generalizing a with
  | zero => simp [bits]; simp at h; omega
  | succ w ih =>
    show 0 ∉ (a % 2) :: bits (a / 2) w ↔ _
    rw [Nat.pow_succ] at h ⊢
    have := Nat.two_pow_pos w
    rw [List.mem_cons, not_or, ih (a / 2) (by omega)]
    omega
theorem num_append (xs ys : List Nat) : num (xs ++ ys) = num xs + 2 ^ xs.length * num ys := by
  induction xs with
  | nil => simp [num]
  | cons b r ih =>
    show b + 2 * num (r ++ ys) = b + 2 * num r + 2 ^ (r.length + 1) * num ys
    rw [ih, Nat.pow_succ, Nat.mul_add, Nat.mul_comm (2 ^ r.length) 2, Nat.mul_assoc, Nat.add_assoc]
theorem num_zeros (n : Nat) : num (List.replicate n 0) = 0 := by
  induction n with
  | zero => rfl
  | succ n ih => show 0 + 2 * num (List.replicate n 0) = 0; rw [ih]
theorem bits_drop (a w k : Nat) : (bits a w).drop k = bits (a / 2 ^ k) (w - k) := by
  apply List.ext_getElem?
  intro i
  rw [List.getElem?_drop]
  by_cases h : k + i < w
  · rw [bits_get a w _ h, bits_get _ _ i (by omega), Nat.div_div_eq_div_mul, ← Nat.pow_add]
  · rw [List.getElem?_eq_none (by rw [bits_len]; omega), List.getElem?_eq_none (by rw [bits_len]; omega)]
theorem bits_take (a w k : Nat) (h : k ≤ w) : (bits a w).take k = bits a k := by
  apply List.ext_getElem?
  intro i
  by_cases hi : i < k
  · rw [List.getElem?_take_of_lt hi, bits_get a w _ (by omega), bits_get _ _ i hi]
  · rw [List.getElem?_eq_none (by rw [List.length_take, bits_len]; omega), List.getElem?_eq_none (by rw [bits_len]; omega)]
theorem shl (a w n : Nat) (h : n < w) : num ((List.replicate n 0 ++ bits a w).take w) = (a * 2 ^ n) % 2 ^ w := by
  rw [List.take_append, List.take_of_length_le (by rw [List.length_replicate]; omega), List.length_replicate, bits_take _ _ _ (by omega), num_append, num_zeros, num_bits, List.length_replicate, Nat.zero_add]
  have e : 2 ^ w = 2 ^ n * 2 ^ (w - n) := by rw [← Nat.pow_add]; congr 1; omega
  rw [e, Nat.mul_comm a, Nat.mul_mod_mul_left]
theorem shl0 (a w n : Nat) (h : w ≤ n) : num ((List.replicate (min n w) 0 ++ bits a w).take w) = 0 := by
  rw [Nat.min_eq_right h, List.take_append, List.take_of_length_le (by rw [List.length_replicate]; omega), List.length_replicate, Nat.sub_self, List.take_zero, List.append_nil, num_zeros]
theorem shr (a w n : Nat) (h : n < w) (ha : a < 2 ^ w) : num ((bits a w).drop n) = a / 2 ^ n := by
  rw [bits_drop, num_bits]
  apply Nat.mod_eq_of_lt
  rw [Nat.div_lt_iff_lt_mul (Nat.two_pow_pos n), ← Nat.pow_add, Nat.sub_add_cancel (by omega)]
  exact ha
theorem shr0 (a w n : Nat) (h : w ≤ n) : num ((bits a w).drop (min n w)) = 0 := by
  rw [Nat.min_eq_right h, List.drop_of_length_le (by rw [bits_len]; omega)]
  rfl
def two (f : Nat → Nat → Nat) (a b w : Nat) : Nat := num ((List.zip (bits a w) (bits b w)).map (fun p => f p.1 p.2))
theorem two_succ (f : Nat → Nat → Nat) (a b w : Nat) : two f a b (w + 1) = f (a % 2) (b % 2) + 2 * two f (a / 2) (b / 2) w := rfl
theorem mod_two_pow_succ (x w : Nat) : x % 2 ^ (w + 1) = x % 2 + 2 * (x / 2 % 2 ^ w) := by
  rw [Nat.pow_succ, Nat.mul_comm (2 ^ w) 2, Nat.mod_mul]
theorem and2 (a b : Nat) : (a &&& b) % 2 = if a % 2 + b % 2 = 2 then 1 else 0 := by
  have h := @Nat.and_mod_two_pow a b 1
  rw [Nat.pow_one] at h
  rw [h]
  rcases Nat.mod_two_eq_zero_or_one a with ha | ha <;> rcases Nat.mod_two_eq_zero_or_one b with hb | hb <;> rw [ha, hb] <;> decide
theorem or2 (a b : Nat) : (a ||| b) % 2 = if a % 2 + b % 2 > 0 then 1 else 0 := by
  have h := @Nat.or_mod_two_pow a b 1
  rw [Nat.pow_one] at h
  rw [h]
  rcases Nat.mod_two_eq_zero_or_one a with ha | ha <;> rcases Nat.mod_two_eq_zero_or_one b with hb | hb <;> rw [ha, hb] <;> decide
theorem xor2 (a b : Nat) : (a ^^^ b) % 2 = if a % 2 + b % 2 = 1 then 1 else 0 := by
  have h := @Nat.xor_mod_two_pow a b 1
  rw [Nat.pow_one] at h
  rw [h]
  rcases Nat.mod_two_eq_zero_or_one a with ha | ha <;> rcases Nat.mod_two_eq_zero_or_one b with hb | hb <;> rw [ha, hb] <;> decide
theorem land (a b w : Nat) : two (fun x y => if x + y = 2 then 1 else 0) a b w = (a &&& b) % 2 ^ w := by
  induction w generalizing a b with
  | zero => rw [Nat.pow_zero, Nat.mod_one]; rfl
  | succ w ih => rw [two_succ, ih, mod_two_pow_succ, and2, Nat.and_div_two]
theorem lor (a b w : Nat) : two (fun x y => if x + y > 0 then 1 else 0) a b w = (a ||| b) % 2 ^ w := by
  induction w generalizing a b with
  | zero => rw [Nat.pow_zero, Nat.mod_one]; rfl
  | succ w ih => rw [two_succ, ih, mod_two_pow_succ, or2, Nat.or_div_two]
theorem lxor (a b w : Nat) : two (fun x y => if x + y = 1 then 1 else 0) a b w = (a ^^^ b) % 2 ^ w := by
  induction w generalizing a b with
  | zero => rw [Nat.pow_zero, Nat.mod_one]; rfl
  | succ w ih => rw [two_succ, ih, mod_two_pow_succ, xor2, Nat.xor_div_two]
/-- the sum that the law makes of bits -/
theorem sum_num (xs : List Nat) : ((List.range xs.length).map (fun k => xs[k]?.getD 0 * 2 ^ k)).sum = num xs := by
  suffices h : ∀ (xs : List Nat) (m : Nat), ((List.range xs.length).map (fun k => xs[k]?.getD 0 * 2 ^ (m + k))).sum = 2 ^ m * num xs by
    have := h xs 0
    simpa using this
  intro xs
  induction xs with
  | nil => intro m; simp [num]
  | cons b r ih =>
    intro m
    rw [List.length_cons, List.range_succ_eq_map, List.map_cons, List.sum_cons, List.map_map]
    have e : ((fun k => (b :: r)[k]?.getD 0 * 2 ^ (m + k)) ∘ Nat.succ) = (fun k => r[k]?.getD 0 * 2 ^ ((m + 1) + k)) := by
      funext k
      show r[k]?.getD 0 * 2 ^ (m + (k + 1)) = _
      congr 2
      omega
    rw [e, ih (m + 1)]
    show b * 2 ^ m + 2 ^ (m + 1) * num r = 2 ^ m * (b + 2 * num r)
    rw [Nat.pow_succ, Nat.mul_add, Nat.mul_comm b, Nat.mul_assoc]
end K1
set_option Elab.async false
set_option maxRecDepth 100000
set_option maxHeartbeats 4000000
namespace K1
open PySem PySem.Spec PyProof.Rows L2
def topS (i : Nat) : Stmt := PySem.Challenge.pw_cellcloth_k01_signs_on_words.main.body.getD i (.Pass ⟨0, 0, 0, 0⟩)
abbrev s_arguments_of : Stmt := topS 5
abbrev N_arguments_of : List Str := ["sign"]
theorem scarguments_of : FnScope ["sign"] ["sign"] (defScope s_arguments_of) := ⟨rfl, rfl, rfl, by decide +kernel, rfl, by decide +kernel, by decide +kernel⟩
abbrev s_result_width : Stmt := topS 6
abbrev N_result_width : List Str := ["sign", "width"]
theorem scresult_width : FnScope ["sign", "width"] ["sign", "width"] (defScope s_result_width) := ⟨rfl, rfl, rfl, by decide +kernel, rfl, by decide +kernel, by decide +kernel⟩
abbrev s_calculate : Stmt := topS 7
abbrev N_calculate : List Str := ["sign", "width", "words", "first"]
theorem sccalculate : FnScope ["sign", "width", "words", "first"] ["sign", "width", "words"] (defScope s_calculate) := ⟨rfl, rfl, rfl, by decide +kernel, rfl, by decide +kernel, by decide +kernel⟩
abbrev s_remainder : Stmt := topS 8
abbrev N_remainder : List Str := ["number", "width"]
theorem scremainder : FnScope ["number", "width"] ["number", "width"] (defScope s_remainder) := ⟨rfl, rfl, rfl, by decide +kernel, rfl, by decide +kernel, by decide +kernel⟩
abbrev s__of_one : Stmt := topS 9
abbrev N__of_one : List Str := ["sign", "width", "word", "greatest", "at"]
theorem sc_of_one : FnScope ["sign", "width", "word", "greatest", "at"] ["sign", "width", "word"] (defScope s__of_one) := ⟨rfl, rfl, rfl, by decide +kernel, rfl, by decide +kernel, by decide +kernel⟩
abbrev s__moved : Stmt := topS 10
abbrev N__moved : List Str := ["sign", "width", "word", "by"]
theorem sc_moved : FnScope ["sign", "width", "word", "by"] ["sign", "width", "word", "by"] (defScope s__moved) := ⟨rfl, rfl, rfl, by decide +kernel, rfl, by decide +kernel, by decide +kernel⟩
abbrev s__of_two : Stmt := topS 11
abbrev N__of_two : List Str := ["sign", "width", "first", "second"]
theorem sc_of_two : FnScope ["sign", "width", "first", "second"] ["sign", "width", "first", "second"] (defScope s__of_two) := ⟨rfl, rfl, rfl, by decide +kernel, rfl, by decide +kernel, by decide +kernel⟩
abbrev s__law_draw : Stmt := topS 13
abbrev N__law_draw : List Str := ["state", "script", "size", "cell", "mixed", "digit"]
theorem sc_law_draw : FnScope ["state", "script", "size", "cell", "mixed", "digit"] ["state", "script", "size"] (defScope s__law_draw) := ⟨rfl, rfl, rfl, by decide +kernel, rfl, by decide +kernel, by decide +kernel⟩
abbrev s__law_bits : Stmt := topS 14
abbrev N__law_bits : List Str := ["word", "width", "k"]
theorem sc_law_bits : FnScope ["word", "width", "k"] ["word", "width"] (defScope s__law_bits) := ⟨rfl, rfl, rfl, by decide +kernel, rfl, by decide +kernel, by decide +kernel⟩
abbrev s__law_number : Stmt := topS 15
abbrev N__law_number : List Str := ["bits", "k"]
theorem sc_law_number : FnScope ["bits", "k"] ["bits"] (defScope s__law_number) := ⟨rfl, rfl, rfl, by decide +kernel, rfl, by decide +kernel, by decide +kernel⟩
abbrev s__law_due : Stmt := topS 16
abbrev N__law_due : List Str := ["sign", "width", "one", "two", "first", "second", "pairs", "k", "a", "b", "bit"]
theorem sc_law_due : FnScope ["sign", "width", "one", "two", "first", "second", "pairs", "k", "a", "b", "bit"] ["sign", "width", "one", "two"] (defScope s__law_due) := ⟨rfl, rfl, rfl, by decide +kernel, rfl, by decide +kernel, by decide +kernel⟩
abbrev s_law : Stmt := topS 17
abbrev N_law : List Str := ["script", "state", "signs", "k", "width", "edge", "one", "two", "sign", "single", "second", "words"]
theorem sclaw : FnScope ["script", "state", "signs", "k", "width", "edge", "one", "two", "sign", "single", "second", "words"] ["script"] (defScope s_law) := ⟨rfl, rfl, rfl, by decide +kernel, rfl, by decide +kernel, by decide +kernel⟩
abbrev sv (xs : List Str) : List V := xs.map V.str
abbrev lSigns : List Str := ["not", "and", "or", "xor", "add", "sub", "mul", "same", "less", "shl", "shr", "any", "all", "odd"]
abbrev lOne : List Str := ["not", "any", "all", "odd"]
abbrev lBit : List Str := ["same", "less", "any", "all", "odd"]
abbrev lMov : List Str := ["shl", "shr"]
structure Txt (K : PySem.W.Frag) (mg : Str → Option Value) (aS aO aB aM : Addr) : Prop where
  m_SIGNS : mg "SIGNS" = some (.ref aS)
  m_SIGNS_OF_ONE : mg "SIGNS_OF_ONE" = some (.ref aO)
  m_SIGNS_TO_A_BIT : mg "SIGNS_TO_A_BIT" = some (.ref aB)
  m_MOVES : mg "MOVES" = some (.ref aM)
  kS : ∃ o, K.lookup aS = some o ∧ o.cls = .type "tuple"
  tS : ∀ H, SqT K H aS (sv lSigns)
  tO : ∀ H, SqT K H aO (sv lOne)
  tB : ∀ H, SqT K H aB (sv lBit)
  tM : ∀ H, SqT K H aM (sv lMov)
  m_int : mg "int" = none
  m_isinstance : mg "isinstance" = none
  m_len : mg "len" = none
  m_list : mg "list" = none
  m_min : mg "min" = none
  m_range : mg "range" = none
  m_sum : mg "sum" = none
  m_tuple : mg "tuple" = none
theorem two20 {w : Nat} (h : w ≤ 20) : w ≤ 1000000 := by omega
theorem in_sv (x : Str) : ∀ xs : List Str, inV (.str x) (sv xs) = decide (x ∈ xs)
  | [] => by rfl
  | y :: r => by
    have ih := in_sv x r
    show (eqV (.str y) (.str x) || inV (.str x) (sv r)) = _
    rw [ih]
    show ((y == x) || decide (x ∈ r)) = _
    by_cases h : x ∈ r
    · rw [decide_eq_true h, Bool.or_true, decide_eq_true (List.mem_cons_of_mem _ h)]
    · by_cases e : y = x
      · subst e
        rw [beq_self_eq_true, Bool.true_or, decide_eq_true List.mem_cons_self]
      · rw [beq_eq_false_iff_ne.mpr e, decide_eq_false h, Bool.or_false, decide_eq_false (fun m => ?_)]
        rcases List.mem_cons.mp m with m | m
        · exact e m.symm
        · exact h m
theorem flat_sv : ∀ xs : List Str, (sv xs).all flatV = true
  | [] => rfl
  | y :: r => by
    show (true && (sv r).all flatV) = true
    rw [flat_sv r]
    rfl
section
variable {P : Program} {w : World} {K : PySem.W.Frag} {mg : Str → Option Value} {base : Heap} {aS aO aB aM : Addr}
def spArg : Sp := fun vs H Q _ => ∃ (x : Str), vs = [.str x] ∧ Q (.int (if x ∈ lOne then 1 else 2)) H
theorem ok_arg {f : Addr} {fd : FuncData} (F : Fun K "arguments_of" "arguments_of" s_arguments_of f fd) (T : Txt K mg aS aO aB aM) : FnOk P w K mg base CX0 1 f fd ["sign"] spArg := by
  refine F.ok scarguments_of (fun vs H Q E h => ?_) (fun cdv A outer s H vs Q E hr h => ?_)
  · obtain ⟨x, rfl, _⟩ := h
    rfl
  · obtain ⟨x, rfl, q⟩ := h
    refine ⟨_, (pss_one (ps_ret (pe_ifExp (pt_cmpR (r := rIn K false) op_in_seq (pv 0) (pe_glob (v := V.ref _) rfl T.m_SIGNS_OF_ONE rfl) (by rfl)) pe_int pe_int))), ?_⟩
    refine ⟨_, rfl, aO, _, rfl, .inr (T.tO H), rfl, flat_sv _, _, rfl, ?_⟩
    show if (if false = true then _ else _) = true then _ else _
    rw [in_sv]
    by_cases h : x ∈ lOne
    · rw [if_pos h] at q
      rw [decide_eq_true h]
      exact q
    · rw [if_neg h] at q
      rw [decide_eq_false h]
      exact q
end
end K1
namespace K1
open PySem PySem.Spec PyProof.Rows L2
/-- a def of the text as callers need it -/
structure Def (K : PySem.W.Frag) (mg : Str → Option Value) (x : Str) (f : Addr) (fd : FuncData) (ps : List Str) : Prop where
  m : mg x = some (.ref f)
  k : PySem.W.keepIn K (.ref f) = true
  b : Binds K fd ps []
theorem pow_cast (w : Nat) : (1 : Int) * 2 ^ ((w : Int)).toNat = 2 ^ w := by rw [Int.toNat_natCast, Int.one_mul]
theorem pow_pos' (w : Nat) : (0 : Int) < 2 ^ w := Int.pow_pos (by decide)
theorem pow_le20 {w : Nat} (h : w ≤ 20) : (2 : Nat) ^ w ≤ 1048576 := Nat.pow_le_pow_right (by decide) h
theorem cp (w : Nat) : ((2 ^ w : Nat) : Int) = 2 ^ w := by rw [Int.natCast_pow]; rfl
theorem cpow {w : Nat} (h : w ≤ 20) : CPow 1 (w : Int) := ⟨Int.natCast_nonneg _, by omega, by decide⟩
section
variable {P : Program} {w : World} {K : PySem.W.Frag} {mg : Str → Option Value} {base : Heap} {aS aO aB aM : Addr}
def spRes : Sp := fun vs H Q _ => ∃ (x : Str) (w : Nat), vs = [.str x, .int w] ∧ Q (.int (if x ∈ lBit then 1 else (w : Int))) H
theorem ok_res {f : Addr} {fd : FuncData} (F : Fun K "result_width" "result_width" s_result_width f fd) (T : Txt K mg aS aO aB aM) : FnOk P w K mg base CX0 1 f fd ["sign", "width"] spRes := by
  refine F.ok scresult_width (fun vs H Q E h => ?_) (fun cdv A outer s H vs Q E hr h => ?_)
  · obtain ⟨x, w, rfl, _⟩ := h
    rfl
  · obtain ⟨x, w, rfl, q⟩ := h
    refine ⟨_, (pss_one (ps_ret (pe_ifExp (pt_cmpR (r := rIn K false) op_in_seq (pv 0) (pe_glob (v := V.ref _) rfl T.m_SIGNS_TO_A_BIT rfl) (by rfl)) pe_int (pv 1)))), ?_⟩
    refine ⟨_, rfl, aB, _, rfl, .inr (T.tB H), rfl, flat_sv _, _, rfl, ?_⟩
    show if (if false = true then _ else _) = true then _ else _
    rw [in_sv]
    by_cases h : x ∈ lBit
    · rw [if_pos h] at q
      rw [decide_eq_true h]
      exact q
    · rw [if_neg h] at q
      rw [decide_eq_false h]
      exact ⟨_, rfl, q⟩
def spRem : Sp := fun vs H Q _ => ∃ (n : Int) (w : Nat), vs = [.int n, .int w] ∧ w ≤ 20 ∧ Q (.int (n % 2 ^ w)) H
theorem ok_rem {f : Addr} {fd : FuncData} (F : Fun K "remainder" "remainder" s_remainder f fd) : FnOk P w K mg base CX0 1 f fd ["number", "width"] spRem := by
  refine F.ok scremainder (fun vs H Q E h => ?_) (fun cdv A outer s H vs Q E hr h => ?_)
  · obtain ⟨x, w, rfl, _⟩ := h
    rfl
  · obtain ⟨n, w, rfl, hw, q⟩ := h
    refine ⟨_, (pss_one (ps_ret (pe_op op_and (pv 0) (pe_op op_sub (pe_op op_shl pe_int (pv 1)) pe_int)))), ?_⟩
    refine ⟨_, rfl, _, rfl, _, _, rfl, rfl, cpow hw, _, _, rfl, rfl, _, _, rfl, rfl, ?_⟩
    show Q (V.int (Builtin.bitAnd n ((1 : Int) * 2 ^ ((w : Int)).toNat - 1))) H
    rw [pow_cast, PySem.W.kbt_mask]
    exact q
/-! ### one word -/
def one (x : Str) (w a : Nat) : Int := if x = "not" then 2 ^ w - 1 - (a : Int) else if x = "any" then (if (a : Int) = 0 then 0 else 1) else if x = "all" then (if (a : Int) = 2 ^ w - 1 then 1 else 0) else (((bits a w).sum % 2 : Nat) : Int)
abbrev vn (xs : List Nat) : List V := xs.map (fun (b : Nat) => V.int (b : Int))
abbrev toI (xs : List Nat) : List Int := xs.map (fun (b : Nat) => (b : Int))
theorem vn_int (xs : List Nat) : vn xs = (toI xs).map V.int := by
  unfold toI
  rw [List.map_map]
  rfl
theorem sum_int : ∀ xs : List Nat, (toI xs).sum = ((xs.sum : Nat) : Int)
  | [] => rfl
  | b :: r => by
    show ((b : Int) :: toI r).sum = ((b + r.sum : Nat) : Int)
    rw [List.sum_cons, sum_int r]
    omega
theorem bit_val (a k : Nat) : Builtin.bitAnd ((a : Int) / 2 ^ ((k : Int)).toNat) 1 = ((a / 2 ^ k % 2 : Nat) : Int) := by
  have h := PySem.W.kbt_mask ((a : Int) / 2 ^ ((k : Int)).toNat) 1
  rw [show (2 : Int) ^ 1 - 1 = 1 by decide, Int.toNat_natCast, show (2 : Int) ^ 1 = 2 by decide] at h
  rw [Int.toNat_natCast, h, ← cp, ← Int.natCast_ediv]
  omega
theorem bits_map (a w : Nat) : vn (bits a w) = (List.range w).map (fun k => V.int ((a / 2 ^ k % 2 : Nat) : Int)) := by
  rw [bits_eq]
  unfold vn
  rw [List.map_map]
  rfl
theorem map_range_succ {α : Type} (f : Nat → α) (i : Nat) : (List.range (i + 1)).map f = (List.range i).map f ++ [f i] := by
  rw [List.range_succ, List.map_append]
  rfl
theorem same_new {H : Hp} {p : Addr} {o : HO} (h : H p = none) : Same H (upd H p o) := fun b x e => by
  rw [upd_ne (ne_of_none e h)]
  exact e
theorem same_mut {H H' : Hp} {p : Addr} {o : HO} (e : Same H H') (h : H p = none) : Same H (upd H' p o) := fun a u ha => by
  rw [upd_ne (ne_of_none ha h)]
  exact e a u ha
theorem tup_same {K : PySem.W.Frag} {H H' : Hp} {a : Addr} {xs : List V} (e : Same H H') (h : SqT K H a xs) : SqT K H' a xs := by
  rcases h with (h | ⟨o, h⟩) | h
  · exact .inl (.inl (e _ _ h))
  · exact .inl (.inr ⟨o, e _ _ h⟩)
  · exact .inr h
def spOne : Sp := fun vs H Q _ => ∃ (x : Str) (w a : Nat), vs = [.str x, .int w, .int a] ∧ w ≤ 20 ∧ ∀ H', Same H H' → Q (.int (one x w a)) H'
theorem ok_one {f : Addr} {fd : FuncData} (F : Fun K "_of_one" "_of_one" s__of_one f fd) (T : Txt K mg aS aO aB aM) : FnOk P w K mg base CX0 1 f fd ["sign", "width", "word"] spOne := by
  refine F.ok sc_of_one (fun vs H Q E h => ?_) (fun cdv A outer s H vs Q E hr h => ?_)
  · obtain ⟨x, w, a, rfl, _⟩ := h
    rfl
  · obtain ⟨x, w, a, rfl, hw, q⟩ := h
    refine ⟨_, (pss_cons (ps_set (i := 3) sc_of_one.nd rfl (.inl rfl) (pe_op op_sub (pe_op op_shl pe_int (pv 1)) pe_int))
      (pss_cons (ps_if (pt_cmpR op_eq (pv 0) pe_str (nomark _)) (pss_one (ps_ret (pe_op op_sub (pv 3) (pv 2)))) pss_nil)
      (pss_cons (ps_if (pt_cmpR op_eq (pv 0) pe_str (nomark _)) (pss_one (ps_ret (pe_ifExp (pt_cmpR op_ne (pv 2) pe_int (nomark _)) pe_int pe_int))) pss_nil)
      (pss_cons (ps_if (pt_cmpR op_eq (pv 0) pe_str (nomark _)) (pss_one (ps_ret (pe_ifExp (pt_cmpR op_eq (pv 2) (pv 3) (nomark _)) pe_int pe_int))) pss_nil)
      (pss_one (ps_ret (pe_op op_and (pe_callB (cr_sum rfl) (by rfl) T.m_sum (by decide +kernel) (pa_cons (pe_lc (own := [("at", 4)]) (g := gName 4) (tt := tYes) rfl sc_of_one.nd (pi_range1 rfl T.m_range (pa_cons (pv 1) pa_nil)) (blkOk_by (N := N__of_one) (sc := defScope s__of_one) (by decide +kernel)) (fun _ _ _ _ _ => (pg_name (i := 4) sc_of_one.nd rfl (Or.inl rfl))) (fun _ _ _ _ _ => pts_nil) (fun _ _ _ _ _ => (pe_op op_and (pe_op op_shr (pv 2) (pv 4)) pe_int))) pa_nil)) pe_int))))))), ?_⟩
    refine ⟨_, rfl, _, _, rfl, rfl, cpow hw, _, _, rfl, rfl, ?_⟩
    have dec : ∀ y : Str, decide (V.str x = V.str y) = decide (x = y) := fun y => by rw [Bool.eq_iff_iff]; simp
    unfold one at q
    refine ⟨_, rfl, rfl, _, rfl, ?_⟩
    rw [dec]
    refine ite2 (fun h => ?_) (fun h => ?_)
    · rw [if_pos (of_decide_eq_true h)] at q
      refine ⟨_, rfl, _, rfl, _, _, rfl, rfl, ?_⟩
      show Q (V.int ((1 : Int) * 2 ^ ((w : Int)).toNat - 1 - (a : Int))) H
      rw [pow_cast]
      exact q H (Same.refl H)
    rw [if_neg (fun e => h (decide_eq_true e))] at q
    refine ⟨_, rfl, rfl, _, rfl, ?_⟩
    rw [dec]
    refine ite2 (fun h => ?_) (fun h => ?_)
    · rw [if_pos (of_decide_eq_true h)] at q
      refine ⟨_, rfl, rfl, _, rfl, ?_⟩
      by_cases h0 : (a : Int) = 0
      · rw [if_pos h0] at q
        rw [h0]
        exact q H (Same.refl H)
      · rw [if_neg h0] at q
        rw [decide_eq_false (fun e => h0 (V.int.inj e))]
        exact q H (Same.refl H)
    rw [if_neg (fun e => h (decide_eq_true e))] at q
    refine ⟨_, rfl, rfl, _, rfl, ?_⟩
    rw [dec]
    refine ite2 (fun h => ?_) (fun h => ?_)
    · rw [if_pos (of_decide_eq_true h)] at q
      refine ⟨_, rfl, _, rfl, rfl, _, rfl, ?_⟩
      rw [pow_cast]
      by_cases h0 : (a : Int) = 2 ^ w - 1
      · rw [if_pos h0] at q
        rw [h0, decide_eq_true rfl]
        exact q H (Same.refl H)
      · rw [if_neg h0] at q
        rw [decide_eq_false (fun e => h0 (V.int.inj e))]
        exact q H (Same.refl H)
    rw [if_neg (fun e => h (decide_eq_true e))] at q
    refine ⟨_, rfl, _, rfl, by omega, by omega, fun D hD => lc_range (n := w) (fun i H' => Same H H' ∧ H' D = some (.lst ((List.range i).map (fun k => V.int ((a / 2 ^ k % 2 : Nat) : Int))))) ⟨same_new hD, upd_same⟩ ?_ ?_⟩
    · rintro i H' hi ⟨sm, hl⟩
      refine ⟨rfl, ?_⟩
      refine ⟨_, rfl, _, rfl, _, _, rfl, rfl, by show (0 : Int) ≤ 0 + (i : Int); omega, _, _, rfl, rfl, ?_⟩
      refine ⟨_, hl, ?_, same_mut sm hD, ?_⟩
      · rw [List.length_map, List.length_range]
        exact small1000 (by omega)
      · rw [upd_same, map_range_succ, Int.zero_add, ← bit_val]
    · rintro H' ⟨sm, hl⟩
      rw [← bits_map] at hl
      refine ⟨D, toI (bits a w), rfl, SqL.of (by rw [hl, vn_int]), _, _, rfl, rfl, ?_⟩
      show Q (V.int (Builtin.bitAnd (toI (bits a w)).sum 1)) H'
      rw [sum_int]
      have e := PySem.W.kbt_mask (((bits a w).sum : Nat) : Int) 1
      rw [show (2 : Int) ^ 1 - 1 = 1 by decide, show (2 : Int) ^ 1 = 2 by decide] at e
      rw [e, show ((((bits a w).sum : Nat) : Int)) % 2 = (((bits a w).sum % 2 : Nat) : Int) by omega]
      exact q H' sm
/-! ### moves -/
def mov (x : Str) (w a n : Nat) : Int := if w ≤ n then 0 else if x = "shl" then ((a * 2 ^ n % 2 ^ w : Nat) : Int) else ((a / 2 ^ n : Nat) : Int)
def spMov : Sp := fun vs H Q _ => ∃ (x : Str) (w a n : Nat), vs = [.str x, .int w, .int a, .int n] ∧ w ≤ 20 ∧ a < 2 ^ w ∧ Q (.int (mov x w a n)) H
theorem ok_mov {f fR : Addr} {fd fdR : FuncData} (F : Fun K "_moved" "_moved" s__moved f fd) (G_remainder : FnOk P w K mg base CX0 1 fR fdR ["number", "width"] spRem) (D_remainder : Def K mg "remainder" fR fdR ["number", "width"]) : FnOk P w K mg base CX0 2 f fd ["sign", "width", "word", "by"] spMov := by
  refine F.ok sc_moved (fun vs H Q E h => ?_) (fun cdv A outer s H vs Q E hr h => ?_)
  · obtain ⟨x, w, a, n, rfl, _⟩ := h
    rfl
  · obtain ⟨x, w, a, n, rfl, hw, ha, q⟩ := h
    have hp := pow_le20 hw
    refine ⟨_, (pss_cons (ps_if (pt_cmpR op_ge (pv 3) (pv 1) (nomark _)) (pss_one (ps_ret pe_int)) pss_nil)
      (pss_one (ps_ret (pe_ifExp (pt_cmpR op_eq (pv 0) pe_str (nomark _)) (pe_call G_remainder (hr.mono (by decide)) (by rfl) D_remainder.m D_remainder.k D_remainder.b .nil pass0 (pa_cons (pe_op op_shl (pv 2) (pv 3)) (pa_cons (pv 1) pa_nil))) (pe_op op_shr (pv 2) (pv 3)))))), ?_⟩
    unfold mov at q
    refine ⟨_, rfl, _, rfl, _, _, rfl, rfl, _, rfl, ite2 (fun h => ?_) (fun h => ?_)⟩
    · have h1 : (w : Int) ≤ (n : Int) := of_decide_eq_true h
      rw [if_pos (by omega)] at q
      exact q
    have h1 : ¬ (w : Int) ≤ (n : Int) := fun e => h (decide_eq_true e)
    rw [if_neg (by omega)] at q
    have dec : ∀ y : Str, decide (V.str x = V.str y) = decide (x = y) := fun y => by rw [Bool.eq_iff_iff]; simp
    refine ⟨_, rfl, rfl, _, rfl, ?_⟩
    rw [dec]
    refine ite2 (fun h => ?_) (fun h => ?_)
    · rw [if_pos (of_decide_eq_true h)] at q
      refine ⟨_, rfl, _, rfl, _, _, rfl, rfl, ⟨Int.natCast_nonneg _, by omega, by omega⟩, _, rfl, _, w, rfl, hw, ?_⟩
      show Q (V.int ((a : Int) * 2 ^ ((n : Int)).toNat % 2 ^ w)) H
      rw [Int.toNat_natCast]
      have e : ((a * 2 ^ n % 2 ^ w : Nat) : Int) = (a : Int) * 2 ^ n % 2 ^ w := by
        rw [Int.natCast_emod, Int.natCast_mul, cp, cp]
      rw [← e]
      exact q
    · rw [if_neg (fun e => h (decide_eq_true e))] at q
      refine ⟨_, rfl, _, rfl, _, _, rfl, rfl, Int.natCast_nonneg _, ?_⟩
      show Q (V.int ((a : Int) / 2 ^ ((n : Int)).toNat)) H
      rw [Int.toNat_natCast]
      have e : ((a / 2 ^ n : Nat) : Int) = (a : Int) / 2 ^ n := by
        rw [Int.natCast_ediv, cp]
      rw [← e]
      exact q
/-! ### two words -/
def twv (x : Str) (w a b : Nat) : Int := if x = "and" then ((a &&& b : Nat) : Int) else if x = "or" then ((a ||| b : Nat) : Int) else if x = "xor" then ((a ^^^ b : Nat) : Int) else if x = "same" then (if a = b then 1 else 0)
  else if x = "less" then (if a < b then 1 else 0) else if x = "add" then ((a : Int) + b) % 2 ^ w else if x = "sub" then ((a : Int) - b) % 2 ^ w else ((a : Int) * b) % 2 ^ w
def spTwo : Sp := fun vs H Q _ => ∃ (x : Str) (w a b : Nat), vs = [.str x, .int w, .int a, .int b] ∧ w ≤ 20 ∧ a < 2 ^ w ∧ Q (.int (twv x w a b)) H
theorem band (a b : Nat) : Builtin.bitAnd (a : Int) (b : Int) = ((a &&& b : Nat) : Int) := by
  rw [bitAnd_pp (Int.natCast_nonneg _) (Int.natCast_nonneg _), Int.toNat_natCast, Int.toNat_natCast]
theorem bor (a b : Nat) : Builtin.bitOr (a : Int) (b : Int) = ((a ||| b : Nat) : Int) := by
  rw [Bits.bitOr_pp (Int.natCast_nonneg _) (Int.natCast_nonneg _), Int.toNat_natCast, Int.toNat_natCast]
theorem bxor (a b : Nat) : Builtin.bitXor (a : Int) (b : Int) = ((a ^^^ b : Nat) : Int) := by
  rw [Bits.bitXor_pp (Int.natCast_nonneg _) (Int.natCast_nonneg _), Int.toNat_natCast, Int.toNat_natCast]
theorem ok_two {f fR : Addr} {fd fdR : FuncData} (F : Fun K "_of_two" "_of_two" s__of_two f fd) (G_remainder : FnOk P w K mg base CX0 1 fR fdR ["number", "width"] spRem) (D_remainder : Def K mg "remainder" fR fdR ["number", "width"]) : FnOk P w K mg base CX0 2 f fd ["sign", "width", "first", "second"] spTwo := by
  refine F.ok sc_of_two (fun vs H Q E h => ?_) (fun cdv A outer s H vs Q E hr h => ?_)
  · obtain ⟨x, w, a, n, rfl, _⟩ := h
    rfl
  · obtain ⟨x, w, a, b, rfl, hw, ha, q⟩ := h
    have hp := pow_le20 hw
    refine ⟨_, (pss_cons (ps_if (pt_cmpR op_eq (pv 0) pe_str (nomark _)) (pss_one (ps_ret (pe_op op_and (pv 2) (pv 3)))) pss_nil)
      (pss_cons (ps_if (pt_cmpR op_eq (pv 0) pe_str (nomark _)) (pss_one (ps_ret (pe_op op_or (pv 2) (pv 3)))) pss_nil)
      (pss_cons (ps_if (pt_cmpR op_eq (pv 0) pe_str (nomark _)) (pss_one (ps_ret (pe_op op_xor (pv 2) (pv 3)))) pss_nil)
      (pss_cons (ps_if (pt_cmpR op_eq (pv 0) pe_str (nomark _)) (pss_one (ps_ret (pe_ifExp (pt_cmpR op_eq (pv 2) (pv 3) (nomark _)) pe_int pe_int))) pss_nil)
      (pss_cons (ps_if (pt_cmpR op_eq (pv 0) pe_str (nomark _)) (pss_one (ps_ret (pe_ifExp (pt_cmpR op_lt (pv 2) (pv 3) (nomark _)) pe_int pe_int))) pss_nil)
      (pss_cons (ps_if (pt_cmpR op_eq (pv 0) pe_str (nomark _)) (pss_one (ps_ret (pe_call G_remainder (hr.mono (by decide)) (by rfl) D_remainder.m D_remainder.k D_remainder.b .nil pass0 (pa_cons (pe_op op_add (pv 2) (pv 3)) (pa_cons (pv 1) pa_nil))))) pss_nil)
      (pss_cons (ps_if (pt_cmpR op_eq (pv 0) pe_str (nomark _)) (pss_one (ps_ret (pe_call G_remainder (hr.mono (by decide)) (by rfl) D_remainder.m D_remainder.k D_remainder.b .nil pass0 (pa_cons (pe_op op_sub (pv 2) (pv 3)) (pa_cons (pv 1) pa_nil))))) pss_nil)
      (pss_one (ps_ret (pe_call G_remainder (hr.mono (by decide)) (by rfl) D_remainder.m D_remainder.k D_remainder.b .nil pass0 (pa_cons (pe_op op_mul (pv 2) (pv 3)) (pa_cons (pv 1) pa_nil)))))))))))), ?_⟩
    unfold twv at q
    have dec : ∀ y : Str, decide (V.str x = V.str y) = decide (x = y) := fun y => by rw [Bool.eq_iff_iff]; simp
    refine ⟨_, rfl, rfl, _, rfl, ?_⟩
    rw [dec]
    refine ite2 (fun h => ?_) (fun h => ?_)
    · rw [if_pos (of_decide_eq_true h)] at q
      refine ⟨_, rfl, _, rfl, _, _, rfl, rfl, ?_⟩
      show Q (V.int (Builtin.bitAnd (a : Int) (b : Int))) H
      rw [band]
      exact q
    rw [if_neg (fun e => h (decide_eq_true e))] at q
    refine ⟨_, rfl, rfl, _, rfl, ?_⟩
    rw [dec]
    refine ite2 (fun h => ?_) (fun h => ?_)
    · rw [if_pos (of_decide_eq_true h)] at q
      refine ⟨_, rfl, _, rfl, _, _, rfl, rfl, ?_⟩
      show Q (V.int (Builtin.bitOr (a : Int) (b : Int))) H
      rw [bor]
      exact q
    rw [if_neg (fun e => h (decide_eq_true e))] at q
    refine ⟨_, rfl, rfl, _, rfl, ?_⟩
    rw [dec]
    refine ite2 (fun h => ?_) (fun h => ?_)
    · rw [if_pos (of_decide_eq_true h)] at q
      refine ⟨_, rfl, _, rfl, _, _, rfl, rfl, ?_⟩
      show Q (V.int (Builtin.bitXor (a : Int) (b : Int))) H
      rw [bxor]
      exact q
    rw [if_neg (fun e => h (decide_eq_true e))] at q
    refine ⟨_, rfl, rfl, _, rfl, ?_⟩
    rw [dec]
    refine ite2 (fun h => ?_) (fun h => ?_)
    · rw [if_pos (of_decide_eq_true h)] at q
      refine ⟨_, rfl, _, rfl, rfl, _, rfl, ?_⟩
      by_cases e : a = b
      · rw [if_pos e] at q
        rw [e, decide_eq_true rfl]
        exact q
      · rw [if_neg e] at q
        rw [decide_eq_false (show ¬ V.int (a : Int) = V.int (b : Int) from fun z => e (by have := V.int.inj z; omega))]
        exact q
    rw [if_neg (fun e => h (decide_eq_true e))] at q
    refine ⟨_, rfl, rfl, _, rfl, ?_⟩
    rw [dec]
    refine ite2 (fun h => ?_) (fun h => ?_)
    · rw [if_pos (of_decide_eq_true h)] at q
      refine ⟨_, rfl, _, rfl, _, _, rfl, rfl, _, rfl, ?_⟩
      by_cases e : a < b
      · rw [if_pos e] at q
        rw [decide_eq_true (show (a : Int) < b by omega)]
        exact q
      · rw [if_neg e] at q
        rw [decide_eq_false (show ¬ (a : Int) < b by omega)]
        exact q
    rw [if_neg (fun e => h (decide_eq_true e))] at q
    refine ⟨_, rfl, rfl, _, rfl, ?_⟩
    rw [dec]
    refine ite2 (fun h => ?_) (fun h => ?_)
    · rw [if_pos (of_decide_eq_true h)] at q
      exact ⟨_, rfl, _, rfl, _, _, rfl, rfl, _, rfl, _, w, rfl, hw, q⟩
    rw [if_neg (fun e => h (decide_eq_true e))] at q
    refine ⟨_, rfl, rfl, _, rfl, ?_⟩
    rw [dec]
    refine ite2 (fun h => ?_) (fun h => ?_)
    · rw [if_pos (of_decide_eq_true h)] at q
      exact ⟨_, rfl, _, rfl, _, _, rfl, rfl, _, rfl, _, w, rfl, hw, q⟩
    rw [if_neg (fun e => h (decide_eq_true e))] at q
    exact ⟨_, rfl, _, rfl, _, _, rfl, rfl, .inl (by omega), _, rfl, _, w, rfl, hw, q⟩
/-! ### all signs -/
theorem seq_ix {K : PySem.W.Frag} {H : Hp} {p : Addr} {ws : List V} {z : Int} {i : Nat} {v : V} {Q : VK} (e : z = (i : Int)) (hs : SqL K H p ws ∨ SqT K H p ws) (h : ws[i]? = some v) (q : Q v H) : rIx K (.ref p) (.int z) H Q := by
  subst e
  rcases hs with hs | hs
  · exact .inl ⟨p, ws, _, v, rfl, rfl, hs, atI_nat h, q⟩
  · exact .inr (.inl ⟨p, ws, _, v, rfl, rfl, hs, atI_nat h, q⟩)
def calc' (x : Str) (w a b : Nat) : Int := if x ∈ lOne then one x w a else if x ∈ lMov then mov x w a b else twv x w a b
def spCalc (K : PySem.W.Frag) : Sp := fun vs H Q _ => ∃ (x : Str) (w a b : Nat) (p : Addr) (ws : List V), vs = [.str x, .int w, .ref p] ∧ w ≤ 20 ∧ a < 2 ^ w ∧ (x ∉ lOne → x ∉ lMov → b < 2 ^ w) ∧
  (SqL K H p ws ∨ SqT K H p ws) ∧ ws[0]? = some (.int a) ∧ (x ∉ lOne → ws[1]? = some (.int b)) ∧ ∀ H', Same H H' → Q (.int (calc' x w a b)) H'
theorem ok_calc {f fR f1 fM f2 : Addr} {fd fdR fd1 fdM fd2 : FuncData} (F : Fun K "calculate" "calculate" s_calculate f fd) (T : Txt K mg aS aO aB aM)
    (G_remainder : FnOk P w K mg base CX0 1 fR fdR ["number", "width"] spRem) (D_remainder : Def K mg "remainder" fR fdR ["number", "width"])
    (G__of_one : FnOk P w K mg base CX0 1 f1 fd1 ["sign", "width", "word"] spOne) (D__of_one : Def K mg "_of_one" f1 fd1 ["sign", "width", "word"])
    (G__moved : FnOk P w K mg base CX0 2 fM fdM ["sign", "width", "word", "by"] spMov) (D__moved : Def K mg "_moved" fM fdM ["sign", "width", "word", "by"])
    (G__of_two : FnOk P w K mg base CX0 2 f2 fd2 ["sign", "width", "first", "second"] spTwo) (D__of_two : Def K mg "_of_two" f2 fd2 ["sign", "width", "first", "second"]) :
    FnOk P w K mg base CX0 3 f fd ["sign", "width", "words"] (spCalc K) := by
  refine F.ok sccalculate (fun vs H Q E h => ?_) (fun cdv A outer s H vs Q E hr h => ?_)
  · obtain ⟨x, w, a, b, p, ws, rfl, _⟩ := h
    rfl
  · obtain ⟨x, w, a, b, p, ws, rfl, hw, ha, hb, hs, w0, w1, q⟩ := h
    have hm : ∀ n : Nat, n < 2 ^ w → (n : Int) % 2 ^ w = n := fun n hn => Int.emod_eq_of_lt (Int.natCast_nonneg _) (by rw [← cp]; omega)
    refine ⟨_, (pss_cons (ps_set (i := 3) sccalculate.nd rfl (.inl rfl) (pe_call G_remainder (hr.mono (by decide)) (by rfl) D_remainder.m D_remainder.k D_remainder.b .nil pass0 (pa_cons (pe_ix (r := rIx K) ix_seq (pv 2) pe_int (fun _ _ => rfl)) (pa_cons (pv 1) pa_nil))))
      (pss_cons (ps_if (pt_cmpR (r := rIn K false) op_in_seq (pv 0) (pe_glob (v := V.ref _) rfl T.m_SIGNS_OF_ONE rfl) (by rfl)) (pss_one (ps_ret (pe_call G__of_one (hr.mono (by decide)) (by rfl) D__of_one.m D__of_one.k D__of_one.b .nil pass0 (pa_cons (pv 0) (pa_cons (pv 1) (pa_cons (pv 3) pa_nil)))))) pss_nil)
      (pss_cons (ps_if (pt_cmpR (r := rIn K false) op_in_seq (pv 0) (pe_glob (v := V.ref _) rfl T.m_MOVES rfl) (by rfl)) (pss_one (ps_ret (pe_call G__moved (hr.mono (by decide)) (by rfl) D__moved.m D__moved.k D__moved.b .nil pass0 (pa_cons (pv 0) (pa_cons (pv 1) (pa_cons (pv 3) (pa_cons (pe_ix (r := rIx K) ix_seq (pv 2) pe_int (fun _ _ => rfl)) pa_nil))))))) pss_nil)
      (pss_one (ps_ret (pe_call G__of_two (hr.mono (by decide)) (by rfl) D__of_two.m D__of_two.k D__of_two.b .nil pass0 (pa_cons (pv 0) (pa_cons (pv 1) (pa_cons (pv 3) (pa_cons (pe_call G_remainder (hr.mono (by decide)) (by rfl) D_remainder.m D_remainder.k D_remainder.b .nil pass0 (pa_cons (pe_ix (r := rIx K) ix_seq (pv 2) pe_int (fun _ _ => rfl)) (pa_cons (pv 1) pa_nil))) pa_nil)))))))))), ?_⟩
    unfold calc' at q
    refine ⟨_, rfl, seq_ix (i := 0) rfl hs w0 ⟨_, rfl, _, w, rfl, hw, ?_⟩⟩
    rw [hm a ha]
    refine ⟨_, rfl, aO, _, rfl, .inr (T.tO H), rfl, flat_sv _, _, rfl, ?_⟩
    show if (if false = true then _ else _) = true then _ else _
    rw [in_sv]
    refine ite2 (fun h => ?_) (fun h => ?_)
    · rw [if_pos (of_decide_eq_true h)] at q
      exact ⟨_, rfl, _, rfl, _, rfl, x, w, a, rfl, hw, q⟩
    have h1 : x ∉ lOne := fun e => h (decide_eq_true e)
    rw [if_neg h1] at q
    refine ⟨_, rfl, aM, _, rfl, .inr (T.tM H), rfl, flat_sv _, _, rfl, ?_⟩
    show if (if false = true then _ else _) = true then _ else _
    rw [in_sv]
    refine ite2 (fun h => ?_) (fun h => ?_)
    · rw [if_pos (of_decide_eq_true h)] at q
      exact ⟨_, rfl, _, rfl, _, rfl, _, rfl, seq_ix (i := 1) rfl hs (w1 h1) ⟨x, w, a, b, rfl, hw, ha, q H (Same.refl H)⟩⟩
    have h2 : x ∉ lMov := fun e => h (decide_eq_true e)
    rw [if_neg h2] at q
    refine ⟨_, rfl, _, rfl, _, rfl, _, rfl, seq_ix (i := 1) rfl hs (w1 h1) ⟨_, rfl, _, w, rfl, hw, ?_⟩⟩
    rw [hm b (hb h1 h2)]
    exact ⟨x, w, a, b, rfl, hw, ha, q H (Same.refl H)⟩
end
end K1
namespace K1
open PySem PySem.Spec PyProof.Rows L2
/-! ### the draws -/
/-- all but what stands at p is as it was -/
def Keep (p : Addr) (H H' : Hp) : Prop := ∀ b o, b ≠ p → H b = some o → H' b = some o
theorem Keep.refl (p : Addr) (H : Hp) : Keep p H H := fun _ _ _ h => h
theorem Keep.trans {p : Addr} {H H1 H2 : Hp} (a : Keep p H H1) (b : Keep p H1 H2) : Keep p H H2 := fun c o n h => b c o n (a c o n h)
theorem Keep.upd {p : Addr} {H H1 : Hp} {o : HO} (a : Keep p H H1) : Keep p H (upd H1 p o) := fun c u n h => by
  rw [upd_ne n]
  exact a c u n h
theorem Keep.of_same {p : Addr} {H H1 : Hp} (a : Same H H1) : Keep p H H1 := fun c u _ h => a c u h
/-- the script, which stood before what is at p was made -/
def Scr (K : PySem.W.Frag) (H : Hp) (p a : Addr) (ns : List Int) : Prop := ∃ H0, H0 p = none ∧ Same H0 H ∧ SqL K H0 a (ns.map V.int)
theorem Scr.keep {K : PySem.W.Frag} {H H' : Hp} {p a : Addr} {ns : List Int} (h : Scr K H p a ns) (k : Keep p H H') : Scr K H' p a ns := by
  obtain ⟨H0, n, s, q⟩ := h
  exact ⟨H0, n, fun b o e => k b o (ne_of_none e n) (s b o e), q⟩
theorem Scr.seq {K : PySem.W.Frag} {H : Hp} {p a : Addr} {ns : List Int} (h : Scr K H p a ns) : SqL K H a (ns.map V.int) := by
  obtain ⟨H0, n, s, q⟩ := h
  exact s.seq q
abbrev ls2 (i s : Int) : HO := .lst [.int i, .int s]
theorem ix_lst {K : PySem.W.Frag} {H : Hp} {p : Addr} {ws : List V} {z : Int} {i : Nat} {v : V} {Q : VK} (e : z = (i : Int)) (hs : SqL K H p ws) (h : ws[i]? = some v) (q : Q v H) : rIxL K (.ref p) (.int z) H Q := by
  subst e
  exact ⟨p, ws, _, v, rfl, rfl, hs, atI_nat h, q⟩
theorem emod_range {x m : Int} (h : 0 < m) : 0 ≤ x.fmod m ∧ x.fmod m < m := by
  rw [Int.fmod_eq_emod_of_nonneg x (by omega)]
  exact ⟨Int.emod_nonneg _ (by omega), Int.emod_lt_of_pos _ h⟩
theorem at_mod {ns : List Int} {i : Int} (h : 0 < (ns.length : Int)) : ∃ (k : Nat) (c : Int), i.fmod ((ns.map V.int).length : Int) = (k : Int) ∧ (ns.map V.int)[k]? = some (.int c) := by
  have r := emod_range (x := i) h
  rw [List.length_map]
  obtain ⟨k, hk⟩ : ∃ k : Nat, i.fmod (ns.length : Int) = (k : Int) := ⟨_, (Int.toNat_of_nonneg r.1).symm⟩
  have hk2 : k < ns.length := by omega
  refine ⟨k, ns[k], hk, ?_⟩
  rw [List.getElem?_map, List.getElem?_eq_getElem hk2]
  rfl
section
variable {P : Program} {w : World} {K : PySem.W.Frag} {mg : Str → Option Value} {base : Heap} {aS aO aB aM : Addr}
def spDraw (K : PySem.W.Frag) : Sp := fun vs H Q _ => ∃ (p a : Addr) (ns : List Int) (i s z : Int), vs = [.ref p, .ref a, .int z] ∧ H p = some (ls2 i s) ∧ 0 ≤ i ∧ 0 ≤ s ∧ Scr K H p a ns ∧ 0 < z ∧ z < 1073741824 ∧
  ∀ H' i' s' d, Keep p H H' → H' p = some (ls2 i' s') → 0 ≤ i' → 0 ≤ s' → 0 ≤ d → d < z → Q (.int d) H'
theorem ok_draw {f : Addr} {fd : FuncData} (F : Fun K "_law_draw" "_law_draw" s__law_draw f fd) (T : Txt K mg aS aO aB aM) : FnOk P w K mg base CX0 1 f fd ["state", "script", "size"] (spDraw K) := by
  refine F.ok sc_law_draw (fun vs H Q E h => ?_) (fun cdv A outer s H vs Q E hr h => ?_)
  · obtain ⟨p, a, ns, i, s, z, rfl, _⟩ := h
    rfl
  · obtain ⟨p, a, ns, i, s, z, rfl, hp, hi, hs, hS, hz, hz2, q⟩ := h
    refine ⟨_, (C8.pss_cut (ps_if (pt_cmpR op_eq (pe_ix (r := rIxL K) ix_list (pv 0) pe_int (fun _ _ => rfl)) pe_int (nomark _)) (pss_cons (ps_set (i := 3) sc_law_draw.nd rfl (.inl rfl) pe_int)
      (C8.pss_cut (ps_if (pt_cmpR op_gt (pe_callB call_len_seq (by rfl) T.m_len (by decide +kernel) (pa_cons (pv 1) pa_nil)) pe_int (nomark _)) (pss_one (ps_set (i := 3) sc_law_draw.nd rfl (.inl rfl) (pe_ix (r := rIxL K) ix_list (pv 1) (pe_op op_modN (pe_ix (r := rIxL K) ix_list (pv 0) pe_int (fun _ _ => rfl)) (pe_callB call_len_seq (by rfl) T.m_len (by decide +kernel) (pa_cons (pv 1) pa_nil))) (fun _ _ => rfl)))) pss_nil)
      (C8.pss_cut (ps_if (pt_cmpR op_lt (pv 3) pe_int (nomark _)) (pss_one (ps_set (i := 3) sc_law_draw.nd rfl (.inl rfl) (pe_op op_sub pe_int (pe_op op_mul pe_int (pv 3))))) pss_nil)
      (pss_cons (ps_set (i := 4) sc_law_draw.nd rfl (.inl rfl) (pe_op op_modN (pe_callTy call_int1 (by rfl) T.m_int (by decide +kernel) (pa_cons (pe_op op_mul (pe_op op_add (pe_op op_add (pv 3) (pe_op op_mul (pe_ix (r := rIxL K) ix_list (pv 0) pe_int (fun _ _ => rfl)) pe_int)) pe_int) pe_int) pa_nil)) pe_int))
      (pss_cons (ps_asg (pe_op op_modN (pe_callTy call_int1 (by rfl) T.m_int (by decide +kernel) (pa_cons (pe_op op_add (pe_op op_mul (pv 4) pe_int) (pe_op op_mul (pe_ix (r := rIxL K) ix_list (pv 0) pe_int (fun _ _ => rfl)) pe_int)) pa_nil)) pe_int) (pg_sub (pv 0) pe_int set_list))
      (C8.pss_cut (ps_if (PW.pt (pw_and (pt_cmpR op_ge (pv 3) (pe_op op_pow pe_int pe_int) (nomark _)) (pw_and1 (pt_cmpR op_lt (pe_ix (r := rIxL K) ix_list (pv 0) pe_int (fun _ _ => rfl)) (pe_callB call_len_seq (by rfl) T.m_len (by decide +kernel) (pa_cons (pv 1) pa_nil)) (nomark _))))) (pss_one (ps_asg (pv 3) (pg_sub (pv 0) pe_int set_list))) pss_nil)
      (pss_one (ps_asg (pe_op op_add (pe_ix (r := rIxL K) ix_list (pv 0) pe_int (fun _ _ => rfl)) pe_int) (pg_sub (pv 0) pe_int set_list))))))))) pss_nil)
      (pss_cons (ps_set (i := 5) sc_law_draw.nd rfl (.inl rfl) (pe_op op_modN (pe_callTy call_int1 (by rfl) T.m_int (by decide +kernel) (pa_cons (pe_ix (r := rIxL K) ix_list (pv 0) pe_int (fun _ _ => rfl)) pa_nil)) (pv 2)))
      (pss_cons (ps_asg (pe_op op_fdivN (pe_ix (r := rIxL K) ix_list (pv 0) pe_int (fun _ _ => rfl)) (pv 2)) (pg_sub (pv 0) pe_int set_list))
      (pss_one (ps_ret (pv 5)))))), ?_⟩
    -- whatever the state was, behind the first if it is one from 0 on
    refine ⟨fun σ H' => ∃ (i' s' : Int) (y3 y4 : Option V), σ = [some (.ref p), some (.ref a), some (.int z), y3, y4, none] ∧ Keep p H H' ∧ H' p = some (ls2 i' s') ∧ 0 ≤ i' ∧ 0 ≤ s', ?_, ?_⟩
    · refine ⟨_, rfl, p, _, 1, _, rfl, rfl, SqL.of hp, atI_nat (j := 1) rfl, rfl, _, rfl, ite2 (fun h0 => ?_) (fun h0 => ?_)⟩
      · -- cell = 0; if len(script) > 0: ..
        refine ⟨fun σ H' => ∃ c : Int, σ = [some (.ref p), some (.ref a), some (.int z), some (.int c), none, none] ∧ H' = H, ?_, ?_⟩
        · refine ⟨_, rfl, a, _, rfl, .inl hS.seq, _, _, rfl, rfl, _, rfl, ite2 (fun h1 => ?_) (fun h1 => ?_)⟩
          · have h2 : (0 : Int) < ((ns.map V.int).length : Int) := of_decide_eq_true h1
            have h3 : (0 : Int) < (ns.length : Int) := by
              rw [List.length_map] at h2
              exact h2
            obtain ⟨k, c, ek, gk⟩ := at_mod (i := i) h3
            refine ⟨_, rfl, _, rfl, p, _, 0, _, rfl, rfl, SqL.of hp, atI_nat (j := 0) rfl, _, rfl, a, _, rfl, .inl hS.seq, _, _, rfl, rfl, ?_, a, _, _, .int c, rfl, rfl, hS.seq, at_of ek gk, ?_⟩
            · show ((ns.map V.int).length : Int) ≠ 0
              omega
            · exact ⟨c, rfl, rfl⟩
          · exact ⟨0, rfl, rfl⟩
        · rintro σ H' ⟨c, rfl, rfl⟩
          refine ⟨fun σ H'' => ∃ c : Int, σ = [some (.ref p), some (.ref a), some (.int z), some (.int c), none, none] ∧ 0 ≤ c ∧ H'' = H', ?_, ?_⟩
          · refine ⟨_, rfl, _, _, rfl, rfl, _, rfl, ite2 (fun h1 => ?_) (fun h1 => ?_)⟩
            · have h2 : c < 0 := of_decide_eq_true h1
              refine ⟨_, rfl, _, _, rfl, rfl, .inl ⟨by decide, by decide⟩, _, _, rfl, rfl, ?_⟩
              exact ⟨1 - 2 * c, rfl, by omega, rfl⟩
            · have h2 : ¬ c < 0 := fun e => h1 (decide_eq_true e)
              exact ⟨c, rfl, by omega, rfl⟩
          · rintro σ H'' ⟨c, rfl, hc, rfl⟩
            -- mixed, state[1]
            refine ⟨_, rfl, _, rfl, p, _, 0, _, rfl, rfl, SqL.of hp, atI_nat (j := 0) rfl, _, _, rfl, rfl, .inr ⟨by decide, by decide⟩, _, _, rfl, rfl, _, _, rfl, rfl, _, _, rfl, rfl, .inr ⟨by decide, by decide⟩, .inl ⟨_, rfl, _, _, rfl, rfl, (show (2147483647 : Int) ≠ 0 by decide), ?_⟩⟩
            refine ⟨_, rfl, _, _, rfl, rfl, .inr ⟨by decide, by decide⟩, _, rfl, p, _, 0, _, rfl, rfl, SqL.of hp, atI_nat (j := 0) rfl, _, _, rfl, rfl, .inr ⟨by decide, by decide⟩, _, _, rfl, rfl, .inl ⟨_, rfl, _, _, rfl, rfl, (show (4294967291 : Int) ≠ 0 by decide), ?_⟩⟩
            refine ⟨_, rfl, p, _, 1, 1, rfl, rfl, hp, rfl, ?_⟩
            have m2 := emod_range (x := ((c + i * 7919 + 1) * 48271).fmod 2147483647 * 69621 + i * 104729) (show (0 : Int) < 4294967291 by decide)
            refine ⟨fun σ H3 => ∃ (s2 : Int) (y4 : Option V), σ = [some (.ref p), some (.ref a), some (.int z), some (.int c), y4, none] ∧ Keep p H'' H3 ∧ H3 p = some (ls2 i s2) ∧ 0 ≤ s2, ?_, ?_⟩
            · have k1 : Keep p H'' (upd H'' p (ls2 i (Int.fmod (((c + i * 7919 + 1) * 48271).fmod 2147483647 * 69621 + i * 104729) 4294967291))) := (Keep.refl p H'').upd
              refine ⟨_, rfl, _, _, rfl, rfl, ⟨by decide, by decide, by decide⟩, _, _, rfl, rfl, _, rfl, ?_⟩
              refine ite2 (fun h1 => ?_) (fun h1 => ?_)
              · refine ⟨_, rfl, p, _, 0, _, rfl, rfl, SqL.of upd_same, atI_nat (j := 0) rfl, _, rfl, a, _, rfl, .inl (hS.keep k1).seq, _, _, rfl, rfl, _, rfl, ite2 (fun h2 => ?_) (fun h2 => ?_)⟩
                · refine ⟨_, rfl, _, rfl, p, _, 1, 1, rfl, rfl, upd_same, rfl, ?_⟩
                  exact ⟨c, _, rfl, k1.upd, upd_same, hc⟩
                · exact ⟨_, _, rfl, k1, upd_same, m2.1⟩
              · exact ⟨_, _, rfl, k1, upd_same, m2.1⟩
            · rintro σ H3 ⟨s2, y4, rfl, k3, h3, hs2⟩
              refine ⟨_, rfl, p, _, 0, _, rfl, rfl, SqL.of h3, atI_nat (j := 0) rfl, _, _, rfl, rfl, _, rfl, p, _, 0, 0, rfl, rfl, h3, rfl, ?_⟩
              exact ⟨i + 1, s2, _, _, rfl, k3.upd, upd_same, by omega, hs2⟩
      · exact ⟨i, s, none, none, rfl, Keep.refl _ _, hp, hi, hs⟩
    · rintro σ H' ⟨i', s', y3, y4, rfl, k, hp', hi', hs'⟩
      refine ⟨_, rfl, p, _, 1, _, rfl, rfl, SqL.of hp', atI_nat (j := 1) rfl, .inl ⟨_, rfl, _, rfl, _, _, rfl, rfl, ?_, ?_⟩⟩
      · show z ≠ 0
        omega
      · refine ⟨_, rfl, p, _, 1, _, rfl, rfl, SqL.of hp', atI_nat (j := 1) rfl, _, rfl, _, _, rfl, rfl, ⟨?_, ?_⟩, _, rfl, p, _, 1, 1, rfl, rfl, hp', rfl, _, rfl, ?_⟩
        · show z ≠ 0
          omega
        · show z.natAbs < 1073741824
          omega
        · have r := emod_range (x := s') hz
          refine q _ i' (s'.fdiv z) _ k.upd upd_same hi' ?_ r.1 r.2
          rw [Int.fdiv_eq_ediv_of_nonneg s' (by omega)]
          exact Int.ediv_nonneg hs' (by omega)
end
end K1
namespace K1
open PySem PySem.Spec PyProof.Rows L2
theorem val3 {a b c : Str} (hab : a ≠ b) (hac : a ≠ c) (hbc : b ≠ c) (u v w : V) (x : Str) : valV (mergeK [] [(Sum.inr a, u), (Sum.inr b, v), (Sum.inr c, w)]) (Sum.inr x) = if x = a then some u else if x = b then some v else if x = c then some w else none := by
  have e : mergeK [] [(Sum.inr a, u), (Sum.inr b, v), (Sum.inr c, w)] = [((Sum.inr a : Key), u), (Sum.inr b, v), (Sum.inr c, w)] := by
    simp [mergeK, putK, hab, hac, hbc]
  rw [e]
  unfold valV
  simp only [List.find?_cons, Sum.inr.injEq, List.find?_nil]
  by_cases h1 : a = x
  · subst h1
    simp
  · rw [if_neg (fun z => h1 z.symm), decide_eq_false h1]
    by_cases h2 : b = x
    · subst h2
      simp
    · rw [if_neg (fun z => h2 z.symm), decide_eq_false h2]
      by_cases h3 : c = x
      · subst h3
        simp
      · rw [if_neg (fun z => h3 z.symm), decide_eq_false h3]
        rfl
theorem val2 {a b : Str} (hab : a ≠ b) (u v : V) (x : Str) : valV (mergeK [] [(Sum.inr a, u), (Sum.inr b, v)]) (Sum.inr x) = if x = a then some u else if x = b then some v else none := by
  have e : mergeK [] [(Sum.inr a, u), (Sum.inr b, v)] = [((Sum.inr a : Key), u), (Sum.inr b, v)] := by
    simp [mergeK, putK, hab]
  rw [e]
  unfold valV
  simp only [List.find?_cons, Sum.inr.injEq, List.find?_nil]
  by_cases h1 : a = x
  · subst h1
    simp
  · rw [if_neg (fun z => h1 z.symm), decide_eq_false h1]
    by_cases h2 : b = x
    · subst h2
      simp
    · rw [if_neg (fun z => h2 z.symm), decide_eq_false h2]
      rfl
theorem dget_of {H : Hp} {d : Addr} {kvs : List (Key × V)} {x : Str} {v : V} (h : H d = some (.dK kvs)) (e : valV kvs (Sum.inr x) = some v) : DGet H d (.str x) (some v) := by
  rw [← e]
  exact DGet.k (k := Sum.inr x) h
theorem vn_len (xs : List Nat) : (vn xs).length = xs.length := List.length_map _
theorem vn_get {xs : List Nat} {i : Nat} (h : i < xs.length) : (vn xs)[i]? = some (.int ((xs[i]?.getD 0 : Nat) : Int)) := by
  rw [List.getElem?_map, List.getElem?_eq_getElem h]
  rfl
section
variable {P : Program} {w : World} {K : PySem.W.Frag} {mg : Str → Option Value} {base : Heap} {aS aO aB aM : Addr}
def spBits : Sp := fun vs H Q _ => ∃ (a w : Nat), vs = [.int a, .int w] ∧ w ≤ 20 ∧ ∀ H' p, Same H H' → H p = none → H' p = some (.lst (vn (bits a w))) → Q (.ref p) H'
theorem ok_bits {f : Addr} {fd : FuncData} (F : Fun K "_law_bits" "_law_bits" s__law_bits f fd) (T : Txt K mg aS aO aB aM) : FnOk P w K mg base CX0 1 f fd ["word", "width"] spBits := by
  refine F.ok sc_law_bits (fun vs H Q E h => ?_) (fun cdv A outer s H vs Q E hr h => ?_)
  · obtain ⟨a, w, rfl, _⟩ := h
    rfl
  · obtain ⟨a, w, rfl, hw, q⟩ := h
    refine ⟨_, (pss_one (ps_ret (pe_lc (own := [("k", 2)]) (g := gName 2) (tt := tYes) rfl sc_law_bits.nd (pi_range1 rfl T.m_range (pa_cons (pv 1) pa_nil)) (blkOk_by (N := N__law_bits) (sc := defScope s__law_bits) (by decide +kernel)) (fun _ _ _ _ _ => (pg_name (i := 2) sc_law_bits.nd rfl (Or.inl rfl))) (fun _ _ _ _ _ => pts_nil) (fun _ _ _ _ _ => (pe_op op_and (pe_op op_shr (pv 0) (pv 2)) pe_int))))), ?_⟩
    refine ⟨_, rfl, _, rfl, by omega, by omega, fun D hD => lc_range (n := w) (fun i H' => Same H H' ∧ H' D = some (.lst ((List.range i).map (fun k => V.int ((a / 2 ^ k % 2 : Nat) : Int))))) ⟨same_new hD, upd_same⟩ ?_ ?_⟩
    · rintro i H' hi ⟨sm, hl⟩
      refine ⟨rfl, _, rfl, _, rfl, _, _, rfl, rfl, by show (0 : Int) ≤ 0 + (i : Int); omega, _, _, rfl, rfl, ?_⟩
      refine ⟨_, hl, ?_, same_mut sm hD, ?_⟩
      · rw [List.length_map, List.length_range]
        exact small1000 (by omega)
      · rw [upd_same, map_range_succ, Int.zero_add, ← bit_val]
    · rintro H' ⟨sm, hl⟩
      rw [← bits_map] at hl
      exact q H' D sm hD hl
def spNum (K : PySem.W.Frag) : Sp := fun vs H Q _ => ∃ (p : Addr) (xs : List Nat), vs = [.ref p] ∧ SqL K H p (vn xs) ∧ xs.length ≤ 100 ∧ (∀ b ∈ xs, b < 2) ∧ ∀ H', Same H H' → Q (.int ((num xs : Nat) : Int)) H'
theorem ok_num {f : Addr} {fd : FuncData} (F : Fun K "_law_number" "_law_number" s__law_number f fd) (T : Txt K mg aS aO aB aM) : FnOk P w K mg base CX0 1 f fd ["bits"] (spNum K) := by
  refine F.ok sc_law_number (fun vs H Q E h => ?_) (fun cdv A outer s H vs Q E hr h => ?_)
  · obtain ⟨a, w, rfl, _⟩ := h
    rfl
  · obtain ⟨p, xs, rfl, hS, hl, hb, q⟩ := h
    have hn : ((vn xs).length : Int).toNat = xs.length := by rw [vn_len, Int.toNat_natCast]
    refine ⟨_, (pss_one (ps_ret (pe_callB (cr_sum rfl) (by rfl) T.m_sum (by decide +kernel) (pa_cons (pe_lc (own := [("k", 1)]) (g := gName 1) (tt := tYes) rfl sc_law_number.nd (pi_range1 rfl T.m_range (pa_cons (pe_callB call_len_seq (by rfl) T.m_len (by decide +kernel) (pa_cons (pv 0) pa_nil)) pa_nil)) (blkOk_by (N := N__law_number) (sc := defScope s__law_number) (by decide +kernel)) (fun _ _ _ _ _ => (pg_name (i := 1) sc_law_number.nd rfl (Or.inl rfl))) (fun _ _ _ _ _ => pts_nil) (fun _ _ _ _ _ => (pe_op op_shl (pe_ix (r := rIxL K) ix_list (pv 0) (pv 1) (fun _ _ => rfl)) (pv 1)))) pa_nil)))), ?_⟩
    refine ⟨_, rfl, p, _, rfl, .inl hS, _, rfl, ?_, ?_, fun D hD => lc_range (fun i H' => Same H H' ∧ H' D = some (.lst (vn ((List.range i).map (fun k => xs[k]?.getD 0 * 2 ^ k))))) ⟨same_new hD, upd_same⟩ ?_ ?_⟩
    · rw [vn_len]
      omega
    · rw [vn_len]
      omega
    · rintro i H' hi ⟨sm, hl'⟩
      rw [hn] at hi
      have hx : xs[i]?.getD 0 < 2 := by
        rw [List.getElem?_eq_getElem hi]
        exact hb _ (List.getElem_mem hi)
      refine ⟨rfl, _, rfl, _, rfl, p, _, _, _, rfl, rfl, sm.seq hS, at_of (Int.zero_add _) (vn_get hi), _, rfl, _, _, rfl, rfl, ⟨by show (0 : Int) ≤ 0 + (i : Int); omega, by show 0 + (i : Int) ≤ 1000000; omega, by omega⟩, ?_⟩
      refine ⟨_, hl', ?_, same_mut sm hD, ?_⟩
      · rw [vn_len, List.length_map, List.length_range]
        exact small1000 (by omega)
      · rw [upd_same, map_range_succ]
        unfold vn
        rw [List.map_append, Int.zero_add]
        show some (HO.lst (_ ++ [V.int (((xs[i]?.getD 0 : Nat) : Int) * 2 ^ ((i : Int)).toNat)])) = some (HO.lst (_ ++ [V.int ((xs[i]?.getD 0 * 2 ^ i : Nat) : Int)]))
        rw [Int.natCast_mul, cp, Int.toNat_natCast]
    · rintro H' ⟨sm, hl'⟩
      rw [hn] at hl'
      refine ⟨D, toI ((List.range xs.length).map (fun k => xs[k]?.getD 0 * 2 ^ k)), rfl, SqL.of (by rw [hl', vn_int]), ?_⟩
      rw [sum_int, sum_num]
      exact q H' sm
end
end K1
namespace K1
open PySem PySem.Spec PyProof.Rows L2
theorem inV_bits (c : Nat) : ∀ xs : List Nat, inV (.int (c : Int)) (vn xs) = decide (c ∈ xs)
  | [] => by rfl
  | y :: r => by
    have ih := inV_bits c r
    show (eqV (.int (y : Int)) (.int (c : Int)) || inV (.int (c : Int)) (vn r)) = _
    rw [ih]
    show (((y : Int) == (c : Int)) || decide (c ∈ r)) = _
    by_cases h : c ∈ r
    · rw [decide_eq_true h, Bool.or_true, decide_eq_true (List.mem_cons_of_mem _ h)]
    · by_cases e : y = c
      · subst e
        rw [beq_self_eq_true, Bool.true_or, decide_eq_true List.mem_cons_self]
      · rw [beq_eq_false_iff_ne.mpr (fun z => e (by omega)), decide_eq_false h, Bool.or_false, decide_eq_false (fun m => ?_)]
        rcases List.mem_cons.mp m with m | m
        · exact e m.symm
        · exact h m
theorem flat_vn : ∀ xs : List Nat, (vn xs).all flatV = true
  | [] => rfl
  | y :: r => by
    show (true && (vn r).all flatV) = true
    rw [flat_vn r]
    rfl
theorem repl_vn (n : Nat) : (List.replicate n [V.int 0]).flatten = vn (List.replicate n 0) := by
  induction n with
  | zero => rfl
  | succ n ih =>
    show V.int 0 :: (List.replicate n [V.int 0]).flatten = V.int 0 :: vn (List.replicate n 0)
    rw [ih]
theorem cut_to (xs : List Nat) (n : Nat) : cutV (vn xs) none (some (n : Int)) = vn (xs.take n) := by
  unfold cutV
  rw [HT.sIx_none, HT.sIx_nat, List.drop_zero, vn_len, Nat.sub_zero]
  unfold vn
  rw [← List.map_take]
  congr 1
  by_cases h : n ≤ xs.length
  · rw [Nat.min_eq_left h]
  · rw [Nat.min_eq_right (by omega), List.take_of_length_le (Nat.le_refl _), List.take_of_length_le (by omega)]
theorem cut_from (xs : List Nat) (n : Nat) : cutV (vn xs) (some (n : Int)) none = vn (xs.drop n) := by
  unfold cutV
  rw [HT.sIx_none, HT.sIx_nat, vn_len]
  unfold vn
  rw [← List.map_drop]
  by_cases h : n ≤ xs.length
  · rw [Nat.min_eq_left h, List.take_of_length_le (by rw [List.length_map, List.length_drop]; omega)]
  · rw [Nat.min_eq_right (by omega), List.drop_of_length_le (Nat.le_refl _), List.drop_of_length_le (by omega), List.map_nil, List.take_nil]
theorem zip_bits (f : Nat → Nat → Nat) (a b w : Nat) : two f a b w = num ((List.range w).map (fun k => f (a / 2 ^ k % 2) (b / 2 ^ k % 2))) := by
  unfold two
  rw [bits_eq, bits_eq, List.zip_map', List.map_map]
  rfl
/-- what the law makes of two bits -/
def fx (x : Str) (u v : Nat) : Nat := if x = "and" then (if u + v = 2 then 1 else 0) else if x = "or" then (if u + v > 0 then 1 else 0) else (if u + v = 1 then 1 else 0)
theorem fx_two {x : Str} (h : x = "and" ∨ x = "or" ∨ x = "xor") {w a b : Nat} (ha : a < 2 ^ w) (hb : b < 2 ^ w) : ((num ((List.range w).map (fun k => fx x (a / 2 ^ k % 2) (b / 2 ^ k % 2))) : Nat) : Int) = twv x w a b := by
  rw [← zip_bits]
  rcases h with rfl | rfl | rfl
  · have e : fx "and" = fun u v => if u + v = 2 then 1 else 0 := by
      funext u v
      unfold fx
      rw [if_pos rfl]
    rw [e, land, Nat.mod_eq_of_lt (Nat.lt_of_le_of_lt Nat.and_le_left ha)]
    unfold twv
    rw [if_pos rfl]
  · have e : fx "or" = fun u v => if u + v > 0 then 1 else 0 := by
      funext u v
      unfold fx
      rw [if_neg (show ¬ ("or" : Str) = "and" by decide +kernel), if_pos rfl]
    rw [e, lor, Nat.mod_eq_of_lt (Nat.or_lt_two_pow ha hb)]
    unfold twv
    rw [if_neg (show ¬ ("or" : Str) = "and" by decide +kernel), if_pos rfl]
  · have e : fx "xor" = fun u v => if u + v = 1 then 1 else 0 := by
      funext u v
      unfold fx
      rw [if_neg (show ¬ ("xor" : Str) = "and" by decide +kernel), if_neg (show ¬ ("xor" : Str) = "or" by decide +kernel)]
    rw [e, lxor, Nat.mod_eq_of_lt (Nat.xor_lt_two_pow ha hb)]
    unfold twv
    rw [if_neg (show ¬ ("xor" : Str) = "and" by decide +kernel), if_neg (show ¬ ("xor" : Str) = "or" by decide +kernel), if_pos rfl]
theorem fx_le (x : Str) (u v : Nat) : fx x u v < 2 := by
  unfold fx
  split
  · split <;> decide
  · split
    · split <;> decide
    · split <;> decide
theorem b2 {p : Prop} [Decidable p] : (if decide p = true then (1 : Int) else 0) = ((if p then 1 else 0 : Nat) : Int) := by
  by_cases h : p
  · rw [decide_eq_true h, if_pos rfl, if_pos h]
    rfl
  · rw [decide_eq_false h, if_neg Bool.false_ne_true, if_neg h]
    rfl
theorem one_not (w a : Nat) : one "not" w a = 2 ^ w - 1 - (a : Int) := by
  unfold one
  rw [if_pos rfl]
theorem one_any (w a : Nat) : one "any" w a = if (a : Int) = 0 then 0 else 1 := by
  unfold one
  rw [if_neg (show ¬ ("any" : Str) = "not" by decide +kernel), if_pos rfl]
theorem one_all (w a : Nat) : one "all" w a = if (a : Int) = 2 ^ w - 1 then 1 else 0 := by
  unfold one
  rw [if_neg (show ¬ ("all" : Str) = "not" by decide +kernel), if_neg (show ¬ ("all" : Str) = "any" by decide +kernel), if_pos rfl]
theorem one_odd (w a : Nat) : one "odd" w a = (((bits a w).sum % 2 : Nat) : Int) := by
  unfold one
  rw [if_neg (show ¬ ("odd" : Str) = "not" by decide +kernel), if_neg (show ¬ ("odd" : Str) = "any" by decide +kernel), if_neg (show ¬ ("odd" : Str) = "all" by decide +kernel)]
theorem twv_and (w a b : Nat) : twv "and" w a b = ((a &&& b : Nat) : Int) := by
  unfold twv
  rw [if_pos rfl]
theorem twv_or (w a b : Nat) : twv "or" w a b = ((a ||| b : Nat) : Int) := by
  unfold twv
  rw [if_neg (show ¬ ("or" : Str) = "and" by decide +kernel), if_pos rfl]
theorem twv_xor (w a b : Nat) : twv "xor" w a b = ((a ^^^ b : Nat) : Int) := by
  unfold twv
  rw [if_neg (show ¬ ("xor" : Str) = "and" by decide +kernel), if_neg (show ¬ ("xor" : Str) = "or" by decide +kernel), if_pos rfl]
theorem twv_same (w a b : Nat) : twv "same" w a b = if a = b then 1 else 0 := by
  unfold twv
  rw [if_neg (show ¬ ("same" : Str) = "and" by decide +kernel), if_neg (show ¬ ("same" : Str) = "or" by decide +kernel), if_neg (show ¬ ("same" : Str) = "xor" by decide +kernel), if_pos rfl]
theorem twv_less (w a b : Nat) : twv "less" w a b = if a < b then 1 else 0 := by
  unfold twv
  rw [if_neg (show ¬ ("less" : Str) = "and" by decide +kernel), if_neg (show ¬ ("less" : Str) = "or" by decide +kernel), if_neg (show ¬ ("less" : Str) = "xor" by decide +kernel), if_neg (show ¬ ("less" : Str) = "same" by decide +kernel), if_pos rfl]
theorem twv_add (w a b : Nat) : twv "add" w a b = ((a : Int) + b) % 2 ^ w := by
  unfold twv
  rw [if_neg (show ¬ ("add" : Str) = "and" by decide +kernel), if_neg (show ¬ ("add" : Str) = "or" by decide +kernel), if_neg (show ¬ ("add" : Str) = "xor" by decide +kernel), if_neg (show ¬ ("add" : Str) = "same" by decide +kernel), if_neg (show ¬ ("add" : Str) = "less" by decide +kernel), if_pos rfl]
theorem twv_sub (w a b : Nat) : twv "sub" w a b = ((a : Int) - b) % 2 ^ w := by
  unfold twv
  rw [if_neg (show ¬ ("sub" : Str) = "and" by decide +kernel), if_neg (show ¬ ("sub" : Str) = "or" by decide +kernel), if_neg (show ¬ ("sub" : Str) = "xor" by decide +kernel), if_neg (show ¬ ("sub" : Str) = "same" by decide +kernel), if_neg (show ¬ ("sub" : Str) = "less" by decide +kernel), if_neg (show ¬ ("sub" : Str) = "add" by decide +kernel), if_pos rfl]
theorem twv_mul (w a b : Nat) : twv "mul" w a b = ((a : Int) * b) % 2 ^ w := by
  unfold twv
  rw [if_neg (show ¬ ("mul" : Str) = "and" by decide +kernel), if_neg (show ¬ ("mul" : Str) = "or" by decide +kernel), if_neg (show ¬ ("mul" : Str) = "xor" by decide +kernel), if_neg (show ¬ ("mul" : Str) = "same" by decide +kernel), if_neg (show ¬ ("mul" : Str) = "less" by decide +kernel), if_neg (show ¬ ("mul" : Str) = "add" by decide +kernel), if_neg (show ¬ ("mul" : Str) = "sub" by decide +kernel)]
theorem mov_shl (w a n : Nat) : mov "shl" w a n = if w ≤ n then 0 else ((a * 2 ^ n % 2 ^ w : Nat) : Int) := by
  unfold mov
  rw [if_pos (show ("shl" : Str) = "shl" from rfl)]
theorem mov_shr (w a n : Nat) : mov "shr" w a n = if w ≤ n then 0 else ((a / 2 ^ n : Nat) : Int) := by
  unfold mov
  rw [if_neg (show ¬ ("shr" : Str) = "shl" by decide +kernel)]
section
variable {P : Program} {w : World} {K : PySem.W.Frag} {mg : Str → Option Value} {base : Heap} {aS aO aB aM : Addr}
def spDue : Sp := fun vs H Q _ => ∃ (x : Str) (w a b : Nat), vs = [.str x, .int w, .int a, .int b] ∧ x ∈ lSigns ∧ 1 ≤ w ∧ w ≤ 16 ∧ a < 2 ^ w ∧ b ≤ 65535 ∧ (x ∉ lMov → b < 2 ^ w) ∧ ∀ H', Same H H' → Q (.int (calc' x w a b)) H'
theorem ok_due {f fB fN : Addr} {fd fdB fdN : FuncData} (F : Fun K "_law_due" "_law_due" s__law_due f fd) (T : Txt K mg aS aO aB aM)
    (G__law_bits : FnOk P w K mg base CX0 1 fB fdB ["word", "width"] spBits) (D__law_bits : Def K mg "_law_bits" fB fdB ["word", "width"])
    (G__law_number : FnOk P w K mg base CX0 1 fN fdN ["bits"] (spNum K)) (D__law_number : Def K mg "_law_number" fN fdN ["bits"]) : FnOk P w K mg base CX0 2 f fd ["sign", "width", "one", "two"] spDue := by
  refine F.ok sc_law_due (fun vs H Q E h => ?_) (fun cdv A outer s H vs Q E hr h => ?_)
  · obtain ⟨x, w, a, b, rfl, _⟩ := h
    rfl
  · obtain ⟨x, w, a, b, rfl, hx, hw1, hw, ha, hb, hb2, q⟩ := h
    have hw2 : w ≤ 20 := by omega
    have hp : (2 : Nat) ^ w ≤ 65536 := Nat.pow_le_pow_right (by decide) hw
    have e65 : Builtin.bitAnd (b : Int) 65535 = (b : Int) := by
      have e := PySem.W.kbt_mask (b : Int) 16
      rw [show (2 : Int) ^ 16 - 1 = 65535 by decide, show (2 : Int) ^ 16 = 65536 by decide] at e
      rw [e]
      omega
    refine ⟨_, (pss_cons (ps_asg (pe_tup (pa_cons (pe_call G__law_bits (hr.mono (by decide)) (by rfl) D__law_bits.m D__law_bits.k D__law_bits.b .nil pass0 (pa_cons (pv 2) (pa_cons (pv 1) pa_nil))) (pa_cons (pe_call G__law_bits (hr.mono (by decide)) (by rfl) D__law_bits.m D__law_bits.k D__law_bits.b .nil pass0 (pa_cons (pe_op op_and (pv 3) pe_int) (pa_cons (pv 1) pa_nil))) pa_nil))) (pg_tup (by rfl) (pgs_cons (pg_name (i := 4) sc_law_due.nd rfl (Or.inr rfl)) (pgs_cons (pg_name (i := 5) sc_law_due.nd rfl (Or.inr rfl)) pgs_nil))))
      (pss_cons (ps_if (pt_cmpR op_eq (pv 0) pe_str (nomark _)) (pss_one (ps_ret (pe_call G__law_number (hr.mono (by decide)) (by rfl) D__law_number.m D__law_number.k D__law_number.b .nil pass0 (pa_cons (pe_lc (own := [("bit", 10)]) (g := gName 10) (tt := tYes) rfl sc_law_due.nd (pi_list (pv 4)) (blkOk_by (N := N__law_due) (sc := defScope s__law_due) (by decide +kernel)) (fun _ _ _ _ _ => (pg_name (i := 10) sc_law_due.nd rfl (Or.inl rfl))) (fun _ _ _ _ _ => pts_nil) (fun _ _ _ _ _ => (pe_op op_sub pe_int (pv 10)))) pa_nil)))) pss_nil)
      (pss_cons (ps_if (pt_cmpR (r := rIn K false) op_in_seq (pv 0) (pe_lst (pa_cons pe_str (pa_cons pe_str (pa_cons pe_str pa_nil)))) (by rfl)) (pss_one (ps_ret (pe_callTy call_int1 (by rfl) T.m_int (by decide +kernel) (pa_cons (pe_dget (hu_of hr) (pe_disp (pps_cons pe_str (pe_cmpR (r := rIn K false) op_in_seq pe_int (pv 4) (by rfl)) (pps_cons pe_str (pe_cmpR (r := rIn K true) op_notIn_seq pe_int (pv 4) (by rfl)) (pps_cons pe_str (pe_cmpR op_eq (pe_op op_modN (pe_callTy call_int1 (by rfl) T.m_int (by decide +kernel) (pa_cons (pe_callB (cr_sum rfl) (by rfl) T.m_sum (by decide +kernel) (pa_cons (pv 4) pa_nil)) pa_nil)) pe_int) pe_int (nomark _)) pps_nil))) rfl rfl (by intro h; cases h) (by decide)) (pv 0) (fun _ _ => rfl)) pa_nil)))) pss_nil)
      (pss_cons (ps_if (pt_cmpR (r := rIn K false) op_in_seq (pv 0) (pe_lst (pa_cons pe_str (pa_cons pe_str pa_nil))) (by rfl)) (pss_one (ps_ret (pe_callTy call_int1 (by rfl) T.m_int (by decide +kernel) (pa_cons (pe_dget (hu_of hr) (pe_disp (pps_cons pe_str (pe_cmpR op_eq (pv 2) (pv 3) (nomark _)) (pps_cons pe_str (pe_cmpR op_lt (pv 2) (pv 3) (nomark _)) pps_nil)) rfl rfl (by intro h; cases h) (by decide)) (pv 0) (fun _ _ => rfl)) pa_nil)))) pss_nil)
      (pss_cons (ps_if (pt_cmpR op_eq (pv 0) pe_str (nomark _)) (pss_one (ps_ret (pe_call G__law_number (hr.mono (by decide)) (by rfl) D__law_number.m D__law_number.k D__law_number.b .nil pass0 (pa_cons (pe_slice sl_list (pe_op op_cat (pe_op op_rep (pe_lst (pa_cons pe_int pa_nil)) (pe_callB (call_min2 rfl) (by rfl) T.m_min (by decide +kernel) (pa_cons (pv 3) (pa_cons (pv 1) pa_nil)))) (pv 4)) po_none (po_some (pv 1))) pa_nil)))) pss_nil)
      (pss_cons (ps_if (pt_cmpR op_eq (pv 0) pe_str (nomark _)) (pss_one (ps_ret (pe_call G__law_number (hr.mono (by decide)) (by rfl) D__law_number.m D__law_number.k D__law_number.b .nil pass0 (pa_cons (pe_slice sl_list (pv 4) (po_some (pe_callB (call_min2 rfl) (by rfl) T.m_min (by decide +kernel) (pa_cons (pv 3) (pa_cons (pv 1) pa_nil)))) po_none) pa_nil)))) pss_nil)
      (pss_cons (ps_if (pt_cmpR (r := rIn K false) op_in_seq (pv 0) (pe_lst (pa_cons pe_str (pa_cons pe_str (pa_cons pe_str pa_nil)))) (by rfl)) (pss_one (ps_ret (pe_op op_modN (pe_callTy call_int1 (by rfl) T.m_int (by decide +kernel) (pa_cons (pe_dget (hu_of hr) (pe_disp (pps_cons pe_str (pe_op op_add (pv 2) (pv 3)) (pps_cons pe_str (pe_op op_sub (pv 2) (pv 3)) (pps_cons pe_str (pe_op op_mul (pv 2) (pv 3)) pps_nil))) rfl rfl (by intro h; cases h) (by decide)) (pv 0) (fun _ _ => rfl)) pa_nil)) (pe_op op_shl pe_int (pv 1))))) pss_nil)
      (pss_cons (ps_setLc (i := 6) (own := [("k", 7)]) (g := gName 7) (tt := tYes) rfl sc_law_due.nd rfl rfl (sw_true rfl rfl rfl (by decide +kernel)) (pi_range1 rfl T.m_range (pa_cons (pv 1) pa_nil)) (blkOk_by (N := N__law_due) (sc := defScope s__law_due) (by decide +kernel)) (fun _ _ _ _ _ => (pg_name (i := 7) sc_law_due.nd rfl (Or.inl rfl))) (fun _ _ _ _ _ => pts_nil) (fun _ _ _ _ _ => (pe_tup (pa_cons (pe_ix (r := rIxL K) ix_list (pv 4) (pv 7) (fun _ _ => rfl)) (pa_cons (pe_ix (r := rIxL K) ix_list (pv 5) (pv 7) (fun _ _ => rfl)) pa_nil)))))
      (pss_one (ps_ret (pe_call G__law_number (hr.mono (by decide)) (by rfl) D__law_number.m D__law_number.k D__law_number.b .nil pass0 (pa_cons (pe_lc (own := [("a", 8), ("b", 9)]) (g := gTup K 2 (gCons (gName 8) (gCons (gName 9) (gNil)))) (tt := tYes) rfl sc_law_due.nd (pi_list (pv 6)) (blkOk_by (N := N__law_due) (sc := defScope s__law_due) (by decide +kernel)) (fun _ _ _ _ _ => (pg_tup (by rfl) (pgs_cons (pg_name (i := 8) sc_law_due.nd rfl (Or.inl rfl)) (pgs_cons (pg_name (i := 9) sc_law_due.nd rfl (Or.inl rfl)) pgs_nil)))) (fun _ _ _ _ _ => pts_nil) (fun _ _ _ _ _ => (pe_callTy call_int1 (by rfl) T.m_int (by decide +kernel) (pa_cons (pe_dget (hu_of hr) (pe_disp (pps_cons pe_str (pe_cmpR op_eq (pe_op op_add (pv 8) (pv 9)) pe_int (nomark _)) (pps_cons pe_str (pe_cmpR op_gt (pe_op op_add (pv 8) (pv 9)) pe_int (nomark _)) (pps_cons pe_str (pe_cmpR op_eq (pe_op op_add (pv 8) (pv 9)) pe_int (nomark _)) pps_nil))) rfl rfl (by intro h; cases h) (by decide)) (pv 0) (fun _ _ => rfl)) pa_nil)))) pa_nil)))))))))))), ?_⟩
    refine ⟨_, rfl, _, rfl, a, w, rfl, hw2, fun H1 p1 s1 n1 e1 => ?_⟩
    refine ⟨_, rfl, _, _, rfl, rfl, _, rfl, b, w, ?_, hw2, fun H2 p2 s2 n2 e2 => ?_⟩
    · show [V.int (Builtin.bitAnd (b : Int) 65535), V.int w] = [V.int b, V.int w]
      rw [e65]
    refine ⟨by show 2 ≤ sizeLine; decide, fun t nt => ⟨t, _, rfl, SqT.of upd_same, rfl, _, _, rfl, _, _, rfl, rfl, ?_⟩⟩
    have sm : Same H (upd H2 t (.tup [.ref p1, .ref p2])) := (s1.trans s2).trans (same_new nt)
    have f1 : (upd H2 t (.tup [.ref p1, .ref p2])) p1 = some (.lst (vn (bits a w))) := by
      rw [upd_ne (ne_of_none (s2 _ _ e1) nt)]
      exact s2 _ _ e1
    have f2 : (upd H2 t (.tup [.ref p1, .ref p2])) p2 = some (.lst (vn (bits b w))) := by
      rw [upd_ne (ne_of_none e2 nt)]
      exact e2
    generalize (upd H2 t (.tup [.ref p1, .ref p2])) = H3 at sm f1 f2 ⊢
    have dec : ∀ y : Str, decide (V.str x = V.str y) = decide (x = y) := fun y => by rw [Bool.eq_iff_iff]; simp
    unfold calc' at q
    -- not
    refine ⟨_, rfl, rfl, _, rfl, ?_⟩
    rw [dec]
    refine ite2 (fun h => ?_) (fun h => ?_)
    · have ex : x = "not" := of_decide_eq_true h
      subst ex
      rw [if_pos (by decide +kernel)] at q
      refine ⟨_, rfl, p1, rfl, ⟨_, SqL.of f1⟩, fun D hD => lc_list (xs := vn (bits a w)) (fun i H' => Same H3 H' ∧ H' D = some (.lst (vn (((bits a w).take i).map (fun b => 1 - b))))) ⟨same_new hD, upd_same⟩ (fun i H' _ h => h.1.seq (SqL.of f1)) ?_ ?_⟩
      · rintro i v H' hv ⟨sm', hl⟩
        have hi : i < w := by
          have := (List.getElem?_eq_some_iff.mp hv).1
          rw [vn_len, bits_len] at this
          exact this
        have hg := bits_get a w i hi
        have ev : v = .int ((a / 2 ^ i % 2 : Nat) : Int) := by
          rw [List.getElem?_map, hg] at hv
          exact (Option.some.inj hv).symm
        subst ev
        refine ⟨rfl, _, rfl, _, _, rfl, rfl, _, hl, ?_, same_mut sm' hD, ?_⟩
        · rw [vn_len, List.length_map, List.length_take]
          exact small1000 (by omega)
        · rw [upd_same, List.take_add_one, hg, List.map_append]
          unfold vn
          rw [List.map_append]
          show some (HO.lst (_ ++ [V.int (1 - ((a / 2 ^ i % 2 : Nat) : Int))])) = some (HO.lst (_ ++ [V.int ((1 - a / 2 ^ i % 2 : Nat) : Int)]))
          rw [show (1 : Int) - ((a / 2 ^ i % 2 : Nat) : Int) = ((1 - a / 2 ^ i % 2 : Nat) : Int) by omega]
      · rintro H' ⟨sm', hl⟩
        rw [vn_len, bits_len, List.take_of_length_le (by rw [bits_len]; omega)] at hl
        refine ⟨D, _, rfl, SqL.of hl, by rw [List.length_map, bits_len]; omega, ?_, fun H4 s4 => ?_⟩
        · intro z hz
          obtain ⟨y, _, rfl⟩ := List.mem_map.mp hz
          omega
        · have e := num_flip a w
          rw [Nat.mod_eq_of_lt ha] at e
          have e2 : ((num ((bits a w).map (fun b => 1 - b)) : Nat) : Int) = one "not" w a := by
            rw [one_not, ← cp]
            omega
          rw [e2]
          exact q H4 (sm.trans (sm'.trans s4))
    have hn : x ≠ "not" := fun e => h (decide_eq_true e)
    -- any, all, odd
    refine ⟨_, rfl, by show 3 ≤ sizeLine; decide, fun l nl => ⟨l, sv ["any", "all", "odd"], rfl, .inl (SqL.of upd_same), rfl, flat_sv _, _, rfl, ?_⟩⟩
    have sm4 : Same H3 (upd H3 l (.lst [V.str "any", V.str "all", V.str "odd"])) := same_new nl
    change if (if false = true then _ else _) = true then _ else _
    rw [in_sv]
    refine ite2 (fun h => ?_) (fun h => ?_)
    · have hx3 : x ∈ (["any", "all", "odd"] : List Str) := of_decide_eq_true h
      rw [if_pos (by rcases List.mem_cons.mp hx3 with rfl | hx3; decide +kernel; rcases List.mem_cons.mp hx3 with rfl | hx3; decide +kernel; rcases List.mem_cons.mp hx3 with rfl | hx3; decide +kernel; cases hx3)] at q
      refine fun d nd => ?_
      have smd : Same H3 (upd (upd H3 l (.lst [V.str "any", V.str "all", V.str "odd"])) d (.dK [])) := sm4.trans (same_new nd)
      have f1d : SqL K (upd (upd H3 l (.lst [V.str "any", V.str "all", V.str "odd"])) d (.dK [])) p1 (vn (bits a w)) := smd.seq (SqL.of f1)
      refine ⟨_, rfl, p1, vn (bits a w), rfl, .inl f1d, rfl, flat_vn _, _, rfl, p1, vn (bits a w), rfl, .inl f1d, rfl, flat_vn _, _, rfl, p1, toI (bits a w), rfl, (by rw [← vn_int]; exact f1d), .inl ⟨_, rfl, _, _, rfl, rfl, (show (2 : Int) ≠ 0 by decide), rfl, upd_same,
        [(Sum.inr "any", V.bl (inV (.int 1) (vn (bits a w)))), (Sum.inr "all", V.bl (!inV (.int 0) (vn (bits a w)))), (Sum.inr "odd", V.bl (decide (V.int ((toI (bits a w)).sum.fmod 2) = V.int 1)))], rfl, by show 3 ≤ 15; decide, ?_⟩⟩
      have sme : Same H3 (upd (upd (upd H3 l (.lst [V.str "any", V.str "all", V.str "odd"])) d (.dK [])) d (.dK (mergeK [] [(Sum.inr "any", V.bl (inV (.int 1) (vn (bits a w)))), (Sum.inr "all", V.bl (!inV (.int 0) (vn (bits a w)))), (Sum.inr "odd", V.bl (decide (V.int ((toI (bits a w)).sum.fmod 2) = V.int 1)))]))) := same_mut smd (sm4.free nd)
      rcases List.mem_cons.mp hx3 with rfl | hx3
      · refine ⟨_, rfl, d, _, rfl, dget_of upd_same (by rw [val3 (by decide +kernel) (by decide +kernel) (by decide +kernel), if_pos rfl]), .inr ⟨_, rfl, ?_⟩⟩
        have e : (if inV (.int 1) (vn (bits a w)) = true then (1 : Int) else 0) = one "any" w a := by
          rw [show inV (.int 1) (vn (bits a w)) = decide (1 ∈ bits a w) from inV_bits 1 _]
          rw [one_any]
          by_cases h0 : a = 0
          · rw [decide_eq_false (fun m => ((mem_one a w ha).mp m) h0), if_neg Bool.false_ne_true, if_pos (by omega)]
          · rw [decide_eq_true ((mem_one a w ha).mpr h0), if_pos rfl, if_neg (by omega)]
        rw [e]
        exact q _ (sm.trans sme)
      rcases List.mem_cons.mp hx3 with rfl | hx3
      · refine ⟨_, rfl, d, _, rfl, dget_of upd_same (by rw [val3 (by decide +kernel) (by decide +kernel) (by decide +kernel), if_neg (by decide +kernel), if_pos rfl]), .inr ⟨_, rfl, ?_⟩⟩
        have e : (if (!inV (.int 0) (vn (bits a w))) = true then (1 : Int) else 0) = one "all" w a := by
          rw [show inV (.int 0) (vn (bits a w)) = decide (0 ∈ bits a w) from inV_bits 0 _]
          rw [one_all]
          have e1 : ((a : Int) = 2 ^ w - 1) ↔ a = 2 ^ w - 1 := by
            rw [← cp]
            have := Nat.two_pow_pos w
            omega
          by_cases h0 : a = 2 ^ w - 1
          · rw [decide_eq_false ((mem_zero a w ha).mpr h0), if_pos (by rfl), if_pos (e1.mpr h0)]
          · rw [decide_eq_true (show 0 ∈ bits a w from Classical.byContradiction fun m => h0 ((mem_zero a w ha).mp m)), if_neg (by decide), if_neg (fun z => h0 (e1.mp z))]
        rw [e]
        exact q _ (sm.trans sme)
      rcases List.mem_cons.mp hx3 with rfl | hx3
      · refine ⟨_, rfl, d, _, rfl, dget_of upd_same (by rw [val3 (by decide +kernel) (by decide +kernel) (by decide +kernel), if_neg (by decide +kernel), if_neg (by decide +kernel), if_pos rfl]), .inr ⟨_, rfl, ?_⟩⟩
        have e : (if (decide (V.int ((toI (bits a w)).sum.fmod 2) = V.int 1)) = true then (1 : Int) else 0) = one "odd" w a := by
          rw [one_odd, sum_int, Int.fmod_eq_emod_of_nonneg _ (by decide)]
          rcases Nat.mod_two_eq_zero_or_one (bits a w).sum with z | z
          · rw [show (((bits a w).sum : Nat) : Int) % 2 = 0 by omega, z]
            rfl
          · rw [show (((bits a w).sum : Nat) : Int) % 2 = 1 by omega, z]
            rfl
        rw [e]
        exact q _ (sm.trans sme)
      cases hx3
    have hx3 : x ∉ (["any", "all", "odd"] : List Str) := fun e => h (decide_eq_true e)
    have hone : x ∉ lOne := fun e => (List.mem_cons.mp e).elim hn hx3
    rw [if_neg hone] at q
    -- same, less
    refine ⟨_, rfl, by show 2 ≤ sizeLine; decide, fun l2 nl2 => ⟨l2, sv ["same", "less"], rfl, .inl (SqL.of upd_same), rfl, flat_sv _, _, rfl, ?_⟩⟩
    have sm5 : Same H3 (upd (upd H3 l (.lst [V.str "any", V.str "all", V.str "odd"])) l2 (.lst [V.str "same", V.str "less"])) := sm4.trans (same_new nl2)
    generalize (upd (upd H3 l (.lst [V.str "any", V.str "all", V.str "odd"])) l2 (.lst [V.str "same", V.str "less"])) = H5 at sm5 ⊢
    have g1 : H5 p1 = some (.lst (vn (bits a w))) := sm5 _ _ f1
    have g2 : H5 p2 = some (.lst (vn (bits b w))) := sm5 _ _ f2
    have sm6 : Same H H5 := sm.trans sm5
    change if (if false = true then _ else _) = true then _ else _
    rw [in_sv]
    refine ite2 (fun h => ?_) (fun h => ?_)
    · have hx2 : x ∈ (["same", "less"] : List Str) := of_decide_eq_true h
      rw [if_neg (by rcases List.mem_cons.mp hx2 with rfl | hx2; decide +kernel; rcases List.mem_cons.mp hx2 with rfl | hx2; decide +kernel; cases hx2)] at q
      refine fun d nd => ?_
      refine ⟨_, rfl, _, rfl, rfl, _, rfl, _, rfl, _, _, rfl, rfl, upd_same, [(Sum.inr "same", V.bl (decide (V.int (a : Int) = V.int (b : Int)))), (Sum.inr "less", V.bl (decide ((a : Int) < (b : Int))))], rfl, by show 2 ≤ 15; decide, ?_⟩
      have sme : Same H (upd (upd H5 d (.dK [])) d (.dK (mergeK [] [(Sum.inr "same", V.bl (decide (V.int (a : Int) = V.int (b : Int)))), (Sum.inr "less", V.bl (decide ((a : Int) < (b : Int))))]))) := same_mut (sm6.trans (same_new nd)) (sm6.free nd)
      rcases List.mem_cons.mp hx2 with rfl | hx2
      · refine ⟨_, rfl, d, _, rfl, dget_of upd_same (by rw [val2 (by decide +kernel), if_pos rfl]), .inr ⟨_, rfl, ?_⟩⟩
        have e : (if decide (V.int (a : Int) = V.int (b : Int)) = true then (1 : Int) else 0) = twv "same" w a b := by
          rw [twv_same]
          by_cases h0 : a = b
          · rw [h0, decide_eq_true rfl, if_pos rfl, if_pos rfl]
          · rw [decide_eq_false (show ¬ V.int (a : Int) = V.int (b : Int) from fun z => h0 (by have := V.int.inj z; omega)), if_neg Bool.false_ne_true, if_neg h0]
        rw [e]
        exact q _ sme
      rcases List.mem_cons.mp hx2 with rfl | hx2
      · refine ⟨_, rfl, d, _, rfl, dget_of upd_same (by rw [val2 (by decide +kernel), if_neg (by decide +kernel), if_pos rfl]), .inr ⟨_, rfl, ?_⟩⟩
        have e : (if decide ((a : Int) < (b : Int)) = true then (1 : Int) else 0) = twv "less" w a b := by
          rw [twv_less]
          by_cases h0 : a < b
          · rw [decide_eq_true (show (a : Int) < b by omega), if_pos rfl, if_pos h0]
          · rw [decide_eq_false (show ¬ (a : Int) < b by omega), if_neg Bool.false_ne_true, if_neg h0]
        rw [e]
        exact q _ sme
      cases hx2
    have hx2 : x ∉ (["same", "less"] : List Str) := fun e => h (decide_eq_true e)
    -- shl
    refine ⟨_, rfl, rfl, _, rfl, ?_⟩
    rw [dec]
    refine ite2 (fun h => ?_) (fun h => ?_)
    · have ex : x = "shl" := of_decide_eq_true h
      subst ex
      rw [if_pos (by decide +kernel)] at q
      obtain ⟨m, hm1, hm2⟩ : ∃ m : Nat, m = min b w ∧ (if (w : Int) < (b : Int) then (w : Int) else (b : Int)) = (m : Int) := by
        refine ⟨_, rfl, ?_⟩
        by_cases h0 : (w : Int) < b
        · rw [if_pos h0, Nat.min_eq_right (by omega)]
        · rw [if_neg h0, Nat.min_eq_left (by omega)]
      refine ⟨by show 1 ≤ sizeLine; decide, fun l1 nl1 => ⟨_, rfl, _, rfl, _, _, rfl, l1, (m : Int), [V.int 0], rfl, by rw [hm2], upd_same, by omega, by omega, ?_, fun l3 nl3 => ?_⟩⟩
      · show 1 * ((m : Int)).toNat ≤ sizeLine
        rw [Int.toNat_natCast]
        exact Nat.le_of_lt (small1000 (by omega))
      rw [Int.toNat_natCast, repl_vn] 
      have s7 : Same H5 (upd (upd H5 l1 (.lst [V.int 0])) l3 (.lst (vn (List.replicate m 0)))) := (same_new nl1).trans (same_new nl3)
      refine ⟨_, rfl, l3, p1, vn (List.replicate m 0), vn (bits a w), rfl, rfl, upd_same, s7 _ _ g1, ?_, fun l4 nl4 => ?_⟩
      · rw [vn_len, vn_len, List.length_replicate, bits_len]
        exact Nat.le_of_lt (small1000 (by omega))
      have ev : vn (List.replicate m 0) ++ vn (bits a w) = vn (List.replicate m 0 ++ bits a w) := (List.map_append).symm
      rw [ev]
      refine ⟨_, rfl, (w : Int), rfl, l4, _, rfl, SqL.of upd_same, fun l6 nl6 => ?_⟩
      rw [cut_to]
      refine ⟨l6, _, rfl, SqL.of upd_same, ?_, ?_, fun H9 s9 => ?_⟩
      · rw [List.length_take]
        omega
      · intro z hz
        rcases List.mem_append.mp (List.mem_of_mem_take hz) with hz | hz
        · rw [(List.mem_replicate.mp hz).2]
          decide
        · exact bits_le _ _ _ hz
      · have e : ((num ((List.replicate m 0 ++ bits a w).take w) : Nat) : Int) = mov "shl" w a b := by
          rw [mov_shl]
          by_cases h0 : w ≤ b
          · rw [if_pos h0, hm1, shl0 a w b h0]
            rfl
          · rw [if_neg h0, hm1, Nat.min_eq_left (by omega), shl a w b (by omega)]
        rw [e]
        exact q _ (((sm6.trans s7).trans ((same_new nl4).trans (same_new nl6))).trans s9)
    have hshl : x ≠ "shl" := fun e => h (decide_eq_true e)
    -- shr
    refine ⟨_, rfl, rfl, _, rfl, ?_⟩
    rw [dec]
    refine ite2 (fun h => ?_) (fun h => ?_)
    · have ex : x = "shr" := of_decide_eq_true h
      subst ex
      rw [if_pos (by decide +kernel)] at q
      obtain ⟨m, hm1, hm2⟩ : ∃ m : Nat, m = min b w ∧ (if (w : Int) < (b : Int) then (w : Int) else (b : Int)) = (m : Int) := by
        refine ⟨_, rfl, ?_⟩
        by_cases h0 : (w : Int) < b
        · rw [if_pos h0, Nat.min_eq_right (by omega)]
        · rw [if_neg h0, Nat.min_eq_left (by omega)]
      refine ⟨_, rfl, _, rfl, _, rfl, _, _, rfl, (m : Int), by rw [hm2], p1, _, rfl, SqL.of g1, fun l6 nl6 => ?_⟩
      rw [cut_from]
      refine ⟨l6, _, rfl, SqL.of upd_same, ?_, ?_, fun H9 s9 => ?_⟩
      · rw [List.length_drop, bits_len]
        omega
      · intro z hz
        exact bits_le _ _ _ (List.mem_of_mem_drop hz)
      · have e : ((num ((bits a w).drop m) : Nat) : Int) = mov "shr" w a b := by
          rw [mov_shr]
          by_cases h0 : w ≤ b
          · rw [if_pos h0, hm1, shr0 a w b h0]
            rfl
          · rw [if_neg h0, hm1, Nat.min_eq_left (by omega), shr a w b (by omega) ha]
        rw [e]
        exact q _ ((sm6.trans (same_new nl6)).trans s9)
    have hshr : x ≠ "shr" := fun e => h (decide_eq_true e)
    have hmov : x ∉ lMov := fun e => by
      rcases List.mem_cons.mp e with e | e
      · exact hshl e
      · rcases List.mem_cons.mp e with e | e
        · exact hshr e
        · cases e
    rw [if_neg hmov] at q
    have hb3 := hb2 hmov
    -- add, sub, mul
    refine ⟨_, rfl, by show 3 ≤ sizeLine; decide, fun l3 nl3 => ⟨l3, sv ["add", "sub", "mul"], rfl, .inl (SqL.of upd_same), rfl, flat_sv _, _, rfl, ?_⟩⟩
    have sm7 : Same H (upd H5 l3 (.lst [V.str "add", V.str "sub", V.str "mul"])) := sm6.trans (same_new nl3)
    have k1 : (upd H5 l3 (.lst [V.str "add", V.str "sub", V.str "mul"])) p1 = some (.lst (vn (bits a w))) := (same_new nl3) _ _ g1
    have k2 : (upd H5 l3 (.lst [V.str "add", V.str "sub", V.str "mul"])) p2 = some (.lst (vn (bits b w))) := (same_new nl3) _ _ g2
    generalize (upd H5 l3 (.lst [V.str "add", V.str "sub", V.str "mul"])) = H6 at sm7 k1 k2 ⊢
    change if (if false = true then _ else _) = true then _ else _
    rw [in_sv]
    refine ite2 (fun h => ?_) (fun h => ?_)
    · have hx3 : x ∈ (["add", "sub", "mul"] : List Str) := of_decide_eq_true h
      refine fun d nd => ?_
      refine ⟨_, rfl, _, rfl, _, _, rfl, rfl, _, rfl, _, rfl, _, _, rfl, rfl, _, rfl, _, rfl, _, _, rfl, rfl, .inl (by omega), upd_same,
        [(Sum.inr "add", V.int ((a : Int) + b)), (Sum.inr "sub", V.int ((a : Int) - b)), (Sum.inr "mul", V.int ((a : Int) * b))], rfl, by show 3 ≤ 15; decide, ?_⟩
      have sme : Same H (upd (upd H6 d (.dK [])) d (.dK (mergeK [] [(Sum.inr "add", V.int ((a : Int) + b)), (Sum.inr "sub", V.int ((a : Int) - b)), (Sum.inr "mul", V.int ((a : Int) * b))]))) := same_mut (sm7.trans (same_new nd)) (sm7.free nd)
      have fin : ∀ (z : Int) (H' : Hp), (z % 2 ^ w = twv x w a b) → Same H H' → Q (V.int (z.fmod (1 * 2 ^ ((w : Int)).toNat))) H' := by
        intro z H' e s'
        rw [pow_cast, Int.fmod_eq_emod_of_nonneg _ (Int.le_of_lt (pow_pos' w)), e]
        exact q H' s'
      have nz : (1 : Int) * 2 ^ ((w : Int)).toNat ≠ 0 := by
        rw [pow_cast]
        have := pow_pos' w
        omega
      rcases List.mem_cons.mp hx3 with rfl | hx3
      · refine ⟨_, rfl, d, _, rfl, dget_of upd_same (by rw [val3 (by decide +kernel) (by decide +kernel) (by decide +kernel), if_pos rfl]), .inl ⟨_, rfl, _, rfl, _, _, rfl, rfl, cpow hw2, _, _, rfl, rfl, nz, ?_⟩⟩
        exact fin _ _ (twv_add w a b).symm sme
      rcases List.mem_cons.mp hx3 with rfl | hx3
      · refine ⟨_, rfl, d, _, rfl, dget_of upd_same (by rw [val3 (by decide +kernel) (by decide +kernel) (by decide +kernel), if_neg (by decide +kernel), if_pos rfl]), .inl ⟨_, rfl, _, rfl, _, _, rfl, rfl, cpow hw2, _, _, rfl, rfl, nz, ?_⟩⟩
        exact fin _ _ (twv_sub w a b).symm sme
      rcases List.mem_cons.mp hx3 with rfl | hx3
      · refine ⟨_, rfl, d, _, rfl, dget_of upd_same (by rw [val3 (by decide +kernel) (by decide +kernel) (by decide +kernel), if_neg (by decide +kernel), if_neg (by decide +kernel), if_pos rfl]), .inl ⟨_, rfl, _, rfl, _, _, rfl, rfl, cpow hw2, _, _, rfl, rfl, nz, ?_⟩⟩
        exact fin _ _ (twv_mul w a b).symm sme
      cases hx3
    have hx4 : x ∉ (["add", "sub", "mul"] : List Str) := fun e => h (decide_eq_true e)
    have hx5 : x = "and" ∨ x = "or" ∨ x = "xor" := by
      simp only [List.mem_cons, List.not_mem_nil, or_false] at hx hone hmov hx4 hx2
      rcases hx with h | h | h | h | h | h | h | h | h | h | h | h | h | h <;> simp_all
    -- pairs
    refine ⟨_, rfl, (w : Int), rfl, by omega, by omega, fun D nD => lc_range (n := w) (fun i H' => Same H6 H' ∧ ∃ ts : List Addr, ts.length = i ∧ H' D = some (.lst (ts.map V.ref)) ∧ ∀ (j : Nat) t, ts[j]? = some t → H' t = some (.tup [V.int ((a / 2 ^ j % 2 : Nat) : Int), V.int ((b / 2 ^ j % 2 : Nat) : Int)]))
      ⟨same_new nD, [], rfl, upd_same, fun j t h => by simp at h⟩ ?_ ?_⟩
    · rintro i H' hi ⟨sm', ts, hts, hD, hall⟩
      have ga : (vn (bits a w))[i]? = some (V.int ((a / 2 ^ i % 2 : Nat) : Int)) := by
        rw [List.getElem?_map, bits_get a w i hi]
        rfl
      have gb : (vn (bits b w))[i]? = some (V.int ((b / 2 ^ i % 2 : Nat) : Int)) := by
        rw [List.getElem?_map, bits_get b w i hi]
        rfl
      refine ⟨rfl, _, rfl, _, rfl, p1, _, _, _, rfl, rfl, SqL.of (sm' _ _ k1), at_of (Int.zero_add _) ga, _, rfl, _, rfl, p2, _, _, _, rfl, rfl, SqL.of (sm' _ _ k2), at_of (Int.zero_add _) gb, by show 2 ≤ sizeLine; decide, fun t nt => ?_⟩
      have nDt : D ≠ t := ne_of_none hD nt
      refine ⟨ts.map V.ref, by rw [upd_ne nDt]; exact hD, ?_, ?_, ts ++ [t], ?_, ?_, ?_⟩
      · rw [List.length_map, hts]
        exact small1000 (by omega)
      · exact same_mut (sm'.trans (same_new nt)) nD
      · rw [List.length_append, hts]
        rfl
      · rw [upd_same, List.map_append]
        rfl
      · intro j t' hj
        by_cases hji : j < ts.length
        · rw [List.getElem?_append_left hji] at hj
          have h1 := hall j t' hj
          rw [upd_ne (ne_of h1 hD (by intro z; cases z)), upd_ne (ne_of_none h1 nt)]
          exact h1
        · rw [List.getElem?_append_right (by omega)] at hj
          have hj0 : j = i := by
            have := (List.getElem?_eq_some_iff.mp hj).1
            simp at this
            omega
          subst hj0
          rw [hts, Nat.sub_self] at hj
          have et : t = t' := Option.some.inj hj
          subst et
          rw [upd_ne (fun z => nDt z.symm), upd_same]
    · rintro H7 ⟨sm', ts, hts, hD, hall⟩
      refine ⟨_, rfl, D, rfl, ⟨_, SqL.of hD⟩, fun D2 nD2 => lc_list (xs := ts.map V.ref) (fun i H' => Same H7 H' ∧ H' D2 = some (.lst (vn ((List.range i).map (fun k => fx x (a / 2 ^ k % 2) (b / 2 ^ k % 2)))))) ⟨same_new nD2, upd_same⟩ (fun i H' _ h => SqL.of (h.1 _ _ hD)) ?_ ?_⟩
      · rintro i v H' hv ⟨s8, hl⟩
        have hi : i < w := by
          have := (List.getElem?_eq_some_iff.mp hv).1
          rw [List.length_map, hts] at this
          exact this
        rw [List.getElem?_map, List.getElem?_eq_getElem (by rw [hts]; exact hi)] at hv
        have ev : V.ref (ts[i]'(by rw [hts]; exact hi)) = v := Option.some.inj hv
        subst ev
        have ht := s8 _ _ (hall i _ (List.getElem?_eq_getElem (by rw [hts]; exact hi)))
        refine ⟨_, [V.int ((a / 2 ^ i % 2 : Nat) : Int), V.int ((b / 2 ^ i % 2 : Nat) : Int)], rfl, SqT.of ht, rfl, _, _, rfl, _, _, rfl, rfl, rfl, fun d nd => ?_⟩
        refine ⟨_, rfl, _, rfl, _, _, rfl, rfl, rfl, _, rfl, _, rfl, _, _, rfl, rfl, _, _, rfl, rfl, _, rfl, _, rfl, _, _, rfl, rfl, rfl, upd_same,
          [(Sum.inr "and", V.bl (decide (V.int (((a / 2 ^ i % 2 : Nat) : Int) + ((b / 2 ^ i % 2 : Nat) : Int)) = V.int 2))), (Sum.inr "or", V.bl (decide (0 < ((a / 2 ^ i % 2 : Nat) : Int) + ((b / 2 ^ i % 2 : Nat) : Int)))), (Sum.inr "xor", V.bl (decide (V.int (((a / 2 ^ i % 2 : Nat) : Int) + ((b / 2 ^ i % 2 : Nat) : Int)) = V.int 1)))], rfl, by show 3 ≤ 15; decide, ?_⟩
        have fin : ∀ (z : Int) (H'' : Hp), z = ((fx x (a / 2 ^ i % 2) (b / 2 ^ i % 2) : Nat) : Int) → Same H' H'' → ∃ acc, H'' D2 = some (.lst acc) ∧ acc.length < sizeLine ∧ Same H7 (upd H'' D2 (.lst (acc ++ [V.int z]))) ∧ (upd H'' D2 (.lst (acc ++ [V.int z]))) D2 = some (.lst (vn ((List.range (i + 1)).map (fun k => fx x (a / 2 ^ k % 2) (b / 2 ^ k % 2))))) := by
          intro z H'' ez s9
          subst ez
          refine ⟨_, s9 _ _ hl, ?_, same_mut (s8.trans s9) nD2, ?_⟩
          · rw [vn_len, List.length_map, List.length_range]
            exact small1000 (by omega)
          · rw [upd_same, map_range_succ]
            unfold vn
            rw [List.map_append]
            rfl
        have sme := same_mut (same_new (o := .dK []) nd) nd (o := .dK (mergeK [] [(Sum.inr "and", V.bl (decide (V.int (((a / 2 ^ i % 2 : Nat) : Int) + ((b / 2 ^ i % 2 : Nat) : Int)) = V.int 2))), (Sum.inr "or", V.bl (decide (0 < ((a / 2 ^ i % 2 : Nat) : Int) + ((b / 2 ^ i % 2 : Nat) : Int)))), (Sum.inr "xor", V.bl (decide (V.int (((a / 2 ^ i % 2 : Nat) : Int) + ((b / 2 ^ i % 2 : Nat) : Int)) = V.int 1)))]))
        rcases hx5 with rfl | rfl | rfl
        · refine ⟨_, rfl, d, _, rfl, dget_of upd_same (by rw [val3 (by decide +kernel) (by decide +kernel) (by decide +kernel), if_pos rfl]), .inr ⟨_, rfl, fin _ _ ?_ sme⟩⟩
          unfold fx
          rw [if_pos rfl, dec_int]
          by_cases h0 : a / 2 ^ i % 2 + b / 2 ^ i % 2 = 2
          · rw [show ((a / 2 ^ i % 2 : Nat) : Int) + ((b / 2 ^ i % 2 : Nat) : Int) = 2 by omega, if_pos h0]
            rfl
          · rw [beq_eq_false_iff_ne.mpr (by omega), if_neg h0]
            rfl
        · refine ⟨_, rfl, d, _, rfl, dget_of upd_same (by rw [val3 (by decide +kernel) (by decide +kernel) (by decide +kernel), if_neg (by decide +kernel), if_pos rfl]), .inr ⟨_, rfl, fin _ _ ?_ sme⟩⟩
          unfold fx
          rw [if_neg (show ¬ ("or" : Str) = "and" by decide +kernel), if_pos (show ("or" : Str) = "or" from rfl)]
          by_cases h0 : a / 2 ^ i % 2 + b / 2 ^ i % 2 > 0
          · rw [decide_eq_true (by omega), if_pos h0]
            rfl
          · rw [decide_eq_false (by omega), if_neg h0]
            rfl
        · refine ⟨_, rfl, d, _, rfl, dget_of upd_same (by rw [val3 (by decide +kernel) (by decide +kernel) (by decide +kernel), if_neg (by decide +kernel), if_neg (by decide +kernel), if_pos rfl]), .inr ⟨_, rfl, fin _ _ ?_ sme⟩⟩
          unfold fx
          rw [if_neg (show ¬ ("xor" : Str) = "and" by decide +kernel), if_neg (show ¬ ("xor" : Str) = "or" by decide +kernel), dec_int]
          by_cases h0 : a / 2 ^ i % 2 + b / 2 ^ i % 2 = 1
          · rw [show ((a / 2 ^ i % 2 : Nat) : Int) + ((b / 2 ^ i % 2 : Nat) : Int) = 1 by omega, if_pos h0]
            rfl
          · rw [beq_eq_false_iff_ne.mpr (by omega), if_neg h0]
            rfl
      · rintro H8 ⟨s8, hl⟩
        rw [List.length_map, hts] at hl
        refine ⟨D2, _, rfl, SqL.of hl, ?_, ?_, fun H9 s9 => ?_⟩
        · rw [List.length_map, List.length_range]
          omega
        · intro z hz
          obtain ⟨k, _, rfl⟩ := List.mem_map.mp hz
          exact fx_le _ _ _
        · rw [fx_two hx5 ha hb3]
          exact q _ (((sm7.trans sm').trans s8).trans s9)
end
end K1
namespace K1
open PySem PySem.Spec PyProof.Rows L2
theorem dp_sv {K : PySem.W.Frag} {H : Hp} : ∀ xs : List Str, DpAll K H (sv xs) (xs.map PyData.str)
  | [] => .nil
  | x :: r => .cons (.str x) (dp_sv r)
theorem two_lt {w : Nat} (h : 1 ≤ w) : 1 < 2 ^ w := by
  obtain ⟨k, rfl⟩ : ∃ k, w = k + 1 := ⟨w - 1, by omega⟩
  rw [Nat.pow_succ]
  have := Nat.two_pow_pos k
  omega
abbrev lBit2 : List Str := ["any", "all", "odd", "same", "less"]
theorem mem_bit {x : Str} : x ∈ lBit2 ↔ x ∈ lBit := by
  simp only [List.mem_cons, List.not_mem_nil, or_false]
  constructor
  · rintro (h | h | h | h | h)
    · exact .inr (.inr (.inl h))
    · exact .inr (.inr (.inr (.inl h)))
    · exact .inr (.inr (.inr (.inr h)))
    · exact .inl h
    · exact .inr (.inl h)
  · rintro (h | h | h | h | h)
    · exact .inr (.inr (.inr (.inl h)))
    · exact .inr (.inr (.inr (.inr h)))
    · exact .inl h
    · exact .inr (.inl h)
    · exact .inr (.inr (.inl h))
theorem calc_one {x : Str} (h : x ∈ lOne) (w a b c : Nat) : calc' x w a b = calc' x w a c := by
  unfold calc'
  rw [if_pos h, if_pos h]
section
variable {P : Program} {w : World} {K : PySem.W.Frag} {mg : Str → Option Value} {base : Heap} {aS aO aB aM : Addr}
def spLaw (K : PySem.W.Frag) : Sp := fun vs H Q _ => ∃ (a : Addr) (ns : List Int), vs = [.ref a] ∧ SqL K H a (ns.map V.int) ∧ ns.length ≤ 63 ∧ ∀ H', Q (.bl true) H'
/-- between two draws -/
structure At (K : PySem.W.Frag) (HB H : Hp) (p : Addr) : Prop where
  keep : Keep p HB H
  st : ∃ i s : Int, H p = some (ls2 i s) ∧ 0 ≤ i ∧ 0 ≤ s
theorem At.same {HB H H' : Hp} {p : Addr} (h : At K HB H p) (s : Same H H') : At K HB H' p := by
  obtain ⟨k, i, z, e, h0, h1⟩ := h
  exact ⟨k.trans (Keep.of_same s), i, z, s _ _ e, h0, h1⟩
theorem ok_law {f fG fR fC fW fD : Addr} {fd fdG fdR fdC fdW fdD : FuncData} (F : Fun K "law" "law" s_law f fd) (T : Txt K mg aS aO aB aM)
    (G_arguments_of : FnOk P w K mg base CX0 1 fG fdG ["sign"] spArg) (D_arguments_of : Def K mg "arguments_of" fG fdG ["sign"])
    (G_result_width : FnOk P w K mg base CX0 1 fR fdR ["sign", "width"] spRes) (D_result_width : Def K mg "result_width" fR fdR ["sign", "width"])
    (G_calculate : FnOk P w K mg base CX0 3 fC fdC ["sign", "width", "words"] (spCalc K)) (D_calculate : Def K mg "calculate" fC fdC ["sign", "width", "words"])
    (G__law_draw : FnOk P w K mg base CX0 1 fW fdW ["state", "script", "size"] (spDraw K)) (D__law_draw : Def K mg "_law_draw" fW fdW ["state", "script", "size"])
    (G__law_due : FnOk P w K mg base CX0 2 fD fdD ["sign", "width", "one", "two"] spDue) (D__law_due : Def K mg "_law_due" fD fdD ["sign", "width", "one", "two"]) :
    FnOk P w K mg base CX0 4 f fd ["script"] (spLaw K) := by
  refine F.ok sclaw (fun vs H Q E h => ?_) (fun cdv A outer s H vs Q E hr h => ?_)
  · obtain ⟨a, ns, rfl, _⟩ := h
    rfl
  · obtain ⟨a, ns, rfl, hS0, hl, q⟩ := h
    refine ⟨_, (pss_cons (ps_set (i := 1) sclaw.nd rfl (.inl rfl) (pe_lst (pa_cons pe_int (pa_cons pe_int pa_nil))))
      (pss_cons (ps_set (i := 2) sclaw.nd rfl (.inl rfl) (pe_lst (pa_cons pe_str (pa_cons pe_str (pa_cons pe_str (pa_cons pe_str (pa_cons pe_str (pa_cons pe_str (pa_cons pe_str (pa_cons pe_str (pa_cons pe_str (pa_cons pe_str (pa_cons pe_str (pa_cons pe_str (pa_cons pe_str (pa_cons pe_str pa_nil))))))))))))))))
      (pss_cons (ps_if (PW.pt (pw_or (pt_cmpR (op_neD hr.units) (pe_callTy call_list_of (by rfl) T.m_list (by decide +kernel) (pa_cons (pe_glob (v := V.ref _) rfl T.m_SIGNS rfl) pa_nil)) (pv 2) (nomark _)) (pw_or1 (pt_not (pt_val (pe_callB call_isi (by rfl) T.m_isinstance (by decide +kernel) (pa_cons (pe_glob (v := V.ref _) rfl T.m_SIGNS rfl) (pa_cons (pe_bltn (v := .ty "tuple") (u := .type "tuple") (by rfl) T.m_tuple (by decide +kernel) rfl) pa_nil)))))))) (pss_one (ps_ret pe_bl)) pss_nil)
      (pss_cons (ps_for PassesOwn.never rfl (pi_range1 rfl T.m_range (pa_cons pe_int pa_nil)) (pg_name (i := 3) sclaw.nd rfl (Or.inl rfl)) (C8.pss_cut (ps_set (i := 4) sclaw.nd rfl (.inl rfl) (pe_op op_add pe_int (pe_call G__law_draw (hr.mono (by decide)) (by rfl) D__law_draw.m D__law_draw.k D__law_draw.b .nil pass0 (pa_cons (pv 1) (pa_cons (pv 0) (pa_cons pe_int pa_nil))))))
      (C8.pss_cut (ps_set (i := 5) sclaw.nd rfl (.inl rfl) (pe_lst (pa_cons pe_int (pa_cons pe_int (pa_cons (pe_op op_sub (pe_op op_shl pe_int (pv 4)) pe_int) (pa_cons (pe_op op_shl pe_int (pe_op op_sub (pv 4) pe_int)) (pa_cons (pe_call G__law_draw (hr.mono (by decide)) (by rfl) D__law_draw.m D__law_draw.k D__law_draw.b .nil pass0 (pa_cons (pv 1) (pa_cons (pv 0) (pa_cons (pe_op op_shl pe_int (pv 4)) pa_nil)))) pa_nil)))))))
      (C8.pss_cut (ps_set (i := 6) sclaw.nd rfl (.inl rfl) (pe_ix (r := rIxL K) ix_list (pv 5) (pe_call G__law_draw (hr.mono (by decide)) (by rfl) D__law_draw.m D__law_draw.k D__law_draw.b .nil pass0 (pa_cons (pv 1) (pa_cons (pv 0) (pa_cons pe_int pa_nil)))) (fun _ _ => rfl)))
      (C8.pss_cut (ps_set (i := 7) sclaw.nd rfl (.inl rfl) (pe_ix (r := rIxL K) ix_list (pv 5) (pe_call G__law_draw (hr.mono (by decide)) (by rfl) D__law_draw.m D__law_draw.k D__law_draw.b .nil pass0 (pa_cons (pv 1) (pa_cons (pv 0) (pa_cons pe_int pa_nil)))) (fun _ _ => rfl)))
      (pss_one (ps_for PassesOwn.never rfl (pi_list (pv 2)) (pg_name (i := 8) sclaw.nd rfl (Or.inl rfl)) (C8.pss_cut (ps_set (i := 9) sclaw.nd rfl (.inl rfl) (pe_cmpR (r := rIn K false) op_in_seq (pv 8) (pe_lst (pa_cons pe_str (pa_cons pe_str (pa_cons pe_str (pa_cons pe_str pa_nil))))) (by rfl)))
      (pss_cons (ps_if (pt_cmpR op_ne (pe_call G_arguments_of (hr.mono (by decide)) (by rfl) D_arguments_of.m D_arguments_of.k D_arguments_of.b .nil pass0 (pa_cons (pv 8) pa_nil)) (pe_op op_sub pe_int (pe_callTy call_int1 (by rfl) T.m_int (by decide +kernel) (pa_cons (pv 9) pa_nil))) (nomark _)) (pss_one (ps_ret pe_bl)) pss_nil)
      (pss_cons (ps_if (pt_cmpR op_ne (pe_call G_result_width (hr.mono (by decide)) (by rfl) D_result_width.m D_result_width.k D_result_width.b .nil pass0 (pa_cons (pv 8) (pa_cons (pv 4) pa_nil))) (pe_ix (r := rIxL K) ix_list (pe_lst (pa_cons (pv 4) (pa_cons pe_int pa_nil))) (pe_callTy call_int1 (by rfl) T.m_int (by decide +kernel) (pa_cons (pe_cmpR (r := rIn K false) op_in_seq (pv 8) (pe_lst (pa_cons pe_str (pa_cons pe_str (pa_cons pe_str (pa_cons pe_str (pa_cons pe_str pa_nil)))))) (by rfl)) pa_nil)) (fun _ _ => rfl)) (nomark _)) (pss_one (ps_ret pe_bl)) pss_nil)
      (pss_cons (ps_set (i := 10) sclaw.nd rfl (.inl rfl) (pv 7))
      (C8.pss_cut (ps_if (pt_cmpR (r := rIn K false) op_in_seq (pv 8) (pe_lst (pa_cons pe_str (pa_cons pe_str pa_nil))) (by rfl)) (pss_one (ps_set (i := 10) sclaw.nd rfl (.inl rfl) (pe_ix (r := rIxL K) ix_list (pe_lst (pa_cons (pv 7) (pa_cons (pe_call G__law_draw (hr.mono (by decide)) (by rfl) D__law_draw.m D__law_draw.k D__law_draw.b .nil pass0 (pa_cons (pv 1) (pa_cons (pv 0) (pa_cons (pe_op op_add (pv 4) pe_int) pa_nil)))) (pa_cons pe_int pa_nil)))) (pe_call G__law_draw (hr.mono (by decide)) (by rfl) D__law_draw.m D__law_draw.k D__law_draw.b .nil pass0 (pa_cons (pv 1) (pa_cons (pv 0) (pa_cons pe_int pa_nil)))) (fun _ _ => rfl)))) pss_nil)
      (C8.pss_cut (ps_set (i := 11) sclaw.nd rfl (.inl rfl) (pe_ifExp (pt_val (pv 9)) (pe_lst (pa_cons (pv 6) pa_nil)) (pe_lst (pa_cons (pv 6) (pa_cons (pv 10) pa_nil)))))
      (pss_one (ps_if (PW.pt (pw_or (pt_cmpR op_ne (pe_call G_calculate (hr.mono (by decide)) (by rfl) D_calculate.m D_calculate.k D_calculate.b .nil pass0 (pa_cons (pv 8) (pa_cons (pv 4) (pa_cons (pv 11) pa_nil)))) (pe_call G__law_due (hr.mono (by decide)) (by rfl) D__law_due.m D__law_due.k D__law_due.b .nil pass0 (pa_cons (pv 8) (pa_cons (pv 4) (pa_cons (pv 6) (pa_cons (pe_ifExp (pt_not (pt_val (pv 9))) (pv 10) pe_int) pa_nil))))) (nomark _)) (pw_or1 (pt_cmpR op_ne (pe_call G_calculate (hr.mono (by decide)) (by rfl) D_calculate.m D_calculate.k D_calculate.b .nil pass0 (pa_cons (pv 8) (pa_cons (pv 4) (pa_cons (pe_callTy call_tuple_of (by rfl) T.m_tuple (by decide +kernel) (pa_cons (pv 11) pa_nil)) pa_nil)))) (pe_call G_calculate (hr.mono (by decide)) (by rfl) D_calculate.m D_calculate.k D_calculate.b .nil pass0 (pa_cons (pv 8) (pa_cons (pv 4) (pa_cons (pv 11) pa_nil)))) (nomark _))))) (pss_one (ps_ret pe_bl)) pss_nil)))))))))))))))
      (pss_one (ps_ret pe_bl)))))), ?_⟩
    -- state = [0, 0]; signs = [..]
    refine ⟨by show 2 ≤ sizeLine; decide, fun p np => ⟨by show 14 ≤ sizeLine; decide, fun g ng => ?_⟩⟩
    have s0 : Same H (upd (upd H p (ls2 0 0)) g (.lst (sv lSigns))) := (same_new np).trans (same_new ng)
    have hp0 : (upd (upd H p (ls2 0 0)) g (.lst (sv lSigns))) p = some (ls2 0 0) := (same_new ng) _ _ upd_same
    have hg0 : (upd (upd H p (ls2 0 0)) g (.lst (sv lSigns))) g = some (.lst (sv lSigns)) := upd_same
    have npg : g ≠ p := fun e => by
      rw [e, upd_same] at ng
      cases ng
    change tSeq _ _ _ _ (upd (upd H p (ls2 0 0)) g (.lst (sv lSigns)))
    generalize (upd (upd H p (ls2 0 0)) g (.lst (sv lSigns))) = HB0 at s0 hp0 hg0 ⊢
    -- if list(SIGNS) != signs or not isinstance(SIGNS, tuple)
    refine ⟨aS, _, rfl, .inr (T.tS _), fun l nl => ⟨_, rfl, .list (lSigns.map PyData.str), .list (lSigns.map PyData.str), .lst (SqL.of upd_same) (dp_sv _), .lst (SqL.of ((same_new nl) _ _ hg0)) (dp_sv _), by decide +kernel, by decide +kernel, _, rfl, ?_⟩⟩
    rw [show PyData.eqv (.list (lSigns.map PyData.str)) (.list (lSigns.map PyData.str)) = true by decide +kernel]
    obtain ⟨oS, hoS, hcS⟩ := T.kS
    refine iteF ⟨.ref aS, .ty "tuple", .type "tuple", .type "tuple", true, rfl, .ty _, .kTuple hoS hcS, kit_ty (by decide +kernel), _, rfl, iteF ?_⟩
    have hB : At K (upd HB0 l (.lst (sv lSigns))) (upd HB0 l (.lst (sv lSigns))) p := ⟨Keep.refl _ _, 0, 0, (same_new nl) _ _ hp0, Int.le_refl _, Int.le_refl _⟩
    have hgB : (upd HB0 l (.lst (sv lSigns))) g = some (.lst (sv lSigns)) := (same_new nl) _ _ hg0
    have hSc : Scr K (upd HB0 l (.lst (sv lSigns))) p a ns := ⟨H, np, s0.trans (same_new nl), hS0⟩
    generalize (upd HB0 l (.lst (sv lSigns))) = HB at hB hgB hSc ⊢
    refine ⟨20, rfl, by decide, by decide, for_range (n := 20) (fun _ σ H' => ∃ y3 y4 y5 y6 y7 y8 y9 y10 y11 : Option V, σ = [some (.ref a), some (.ref p), some (.ref g), y3, y4, y5, y6, y7, y8, y9, y10, y11] ∧ At K HB H' p) ⟨_, _, _, _, _, _, _, _, _, rfl, hB⟩ ?_ ?_⟩
    case refine_2 =>
      rintro σ H' ⟨y3, y4, y5, y6, y7, y8, y9, y10, y11, rfl, hA⟩
      exact q H'
    rintro i σ H1 hi ⟨y3, y4, y5, y6, y7, y8, y9, y10, y11, rfl, hA⟩
    -- width
    refine ⟨fun σ' H' => ∃ (w : Nat) (y3 y5 y6 y7 y8 y9 y10 y11 : Option V), σ' = [some (.ref a), some (.ref p), some (.ref g), y3, some (.int (w : Int)), y5, y6, y7, y8, y9, y10, y11] ∧ 1 ≤ w ∧ w ≤ 16 ∧ At K HB H' p, ?_, ?_⟩
    · obtain ⟨k0, i0, z0, e0, h0, h1⟩ := hA
      refine ⟨_, rfl, _, rfl, p, a, ns, i0, z0, 16, rfl, e0, h0, h1, hSc.keep k0, by decide, by decide, fun H2 i2 z2 d k2 e2 h02 h12 d0 d1 => ⟨_, _, rfl, rfl, ?_⟩⟩
      obtain ⟨w0, rfl⟩ : ∃ w0 : Nat, d = (w0 : Int) := ⟨d.toNat, by omega⟩
      exact ⟨w0 + 1, some (.int (0 + (i : Int))), y5, y6, y7, y8, y9, y10, y11, by rw [show ((w0 + 1 : Nat) : Int) = 1 + (w0 : Int) by omega]; rfl, by omega, by omega, k0.trans k2, i2, z2, e2, h02, h12⟩
    clear hA y3 y4 y5 y6 y7 y8 y9 y10 y11
    rintro σ H2 ⟨w, y3, y5, y6, y7, y8, y9, y10, y11, rfl, hw1, hw, hA⟩
    have hw2 : w ≤ 20 := by omega
    have hp16 : (2 : Nat) ^ w ≤ 65536 := Nat.pow_le_pow_right (by decide) hw
    have hlt := two_lt hw1
    -- edge
    refine ⟨fun σ' H' => ∃ (eA : Addr) (es : List Nat) (y3 y6 y7 y8 y9 y10 y11 : Option V), σ' = [some (.ref a), some (.ref p), some (.ref g), y3, some (.int (w : Int)), some (.ref eA), y6, y7, y8, y9, y10, y11] ∧ At K HB H' p ∧ eA ≠ p ∧ H' eA = some (.lst (vn es)) ∧ es.length = 5 ∧ ∀ x ∈ es, x < 2 ^ w, ?_, ?_⟩
    · obtain ⟨k0, i0, z0, e0, h0, h1⟩ := hA
      refine ⟨_, rfl, _, _, rfl, rfl, cpow hw2, _, _, rfl, rfl, _, rfl, _, _, rfl, rfl, _, _, rfl, rfl, ⟨by show (0 : Int) ≤ (w : Int) - 1; omega, by show (w : Int) - 1 ≤ 1000000; omega, by decide⟩,
        _, rfl, _, rfl, _, rfl, _, _, rfl, rfl, cpow hw2, p, a, ns, i0, z0, 1 * 2 ^ ((w : Int)).toNat, rfl, e0, h0, h1, hSc.keep k0, ?_, ?_, fun H3 i3 z3 d k3 e3 h03 h13 d0 d1 => ⟨by show 5 ≤ sizeLine; decide, fun eA nE => ?_⟩⟩
      · rw [pow_cast]
        exact pow_pos' w
      · rw [pow_cast, ← cp]
        omega
      rw [pow_cast, ← cp] at d1
      obtain ⟨d', rfl⟩ : ∃ d' : Nat, d = (d' : Int) := ⟨d.toNat, by omega⟩
      have nE' : eA ≠ p := fun e => by
        rw [e, e3] at nE
        cases nE
      have hh : (2 : Nat) ^ (w - 1) < 2 ^ w := Nat.pow_lt_pow_right (by decide) (by omega)
      refine ⟨eA, [0, 1, 2 ^ w - 1, 2 ^ (w - 1), d'], _, _, _, _, _, _, _, rfl, ⟨(k0.trans k3).trans (Keep.of_same (same_new nE)), i3, z3, (same_new nE) _ _ e3, h03, h13⟩, nE', ?_, rfl, ?_⟩
      · rw [upd_same]
        have c1 : (1 : Int) * 2 ^ ((w : Int)).toNat - 1 = ((2 ^ w - 1 : Nat) : Int) := by
          rw [pow_cast, ← cp]
          omega
        have c2 : (1 : Int) * 2 ^ ((w : Int) - 1).toNat = ((2 ^ (w - 1) : Nat) : Int) := by
          rw [show ((w : Int) - 1).toNat = w - 1 by omega, Int.one_mul, ← cp]
        show some (HO.lst [V.int 0, V.int 1, V.int ((1 : Int) * 2 ^ ((w : Int)).toNat - 1), V.int ((1 : Int) * 2 ^ ((w : Int) - 1).toNat), V.int (d' : Int)]) = _
        rw [c1, c2]
        rfl
      · intro x hx
        simp only [List.mem_cons, List.not_mem_nil, or_false] at hx
        rcases hx with rfl | rfl | rfl | rfl | rfl <;> omega
    clear hA y3 y5 y6 y7 y8 y9 y10 y11
    rintro σ H3 ⟨eA, es, y3, y6, y7, y8, y9, y10, y11, rfl, hA, nE, hE, hlE, hes⟩
    -- one
    refine ⟨fun σ' H' => ∃ (c : Nat) (y3 y7 y8 y9 y10 y11 : Option V), σ' = [some (.ref a), some (.ref p), some (.ref g), y3, some (.int (w : Int)), some (.ref eA), some (.int (c : Int)), y7, y8, y9, y10, y11] ∧ At K HB H' p ∧ H' eA = some (.lst (vn es)) ∧ c < 2 ^ w, ?_, ?_⟩
    · obtain ⟨k0, i0, z0, e0, h0, h1⟩ := hA
      refine ⟨_, rfl, _, rfl, _, rfl, p, a, ns, i0, z0, 5, rfl, e0, h0, h1, hSc.keep k0, by decide, by decide, fun H4 i4 z4 d k4 e4 h04 h14 d0 d1 => ?_⟩
      obtain ⟨d', rfl⟩ : ∃ d' : Nat, d = (d' : Int) := ⟨d.toNat, by omega⟩
      have hd : d' < es.length := by omega
      refine ⟨eA, _, _, _, rfl, rfl, SqL.of (k4 _ _ nE hE), atI_nat (vn_get hd), ?_⟩
      refine ⟨_, _, _, _, _, _, _, rfl, ⟨k0.trans k4, i4, z4, e4, h04, h14⟩, k4 _ _ nE hE, ?_⟩
      rw [List.getElem?_eq_getElem hd]
      exact hes _ (List.getElem_mem hd)
    clear hA y3 y6 y7 y8 y9 y10 y11 hE
    rintro σ H4 ⟨c, y3, y7, y8, y9, y10, y11, rfl, hA, hE, hc⟩
    -- two
    refine ⟨fun σ' H' => ∃ (b : Nat) (y3 y5 y8 y9 y10 y11 : Option V), σ' = [some (.ref a), some (.ref p), some (.ref g), y3, some (.int (w : Int)), y5, some (.int (c : Int)), some (.int (b : Int)), y8, y9, y10, y11] ∧ At K HB H' p ∧ b < 2 ^ w, ?_, ?_⟩
    · obtain ⟨k0, i0, z0, e0, h0, h1⟩ := hA
      refine ⟨_, rfl, _, rfl, _, rfl, p, a, ns, i0, z0, 5, rfl, e0, h0, h1, hSc.keep k0, by decide, by decide, fun H5 i5 z5 d k5 e5 h05 h15 d0 d1 => ?_⟩
      obtain ⟨d', rfl⟩ : ∃ d' : Nat, d = (d' : Int) := ⟨d.toNat, by omega⟩
      have hd : d' < es.length := by omega
      refine ⟨eA, _, _, _, rfl, rfl, SqL.of (k5 _ _ nE hE), atI_nat (vn_get hd), ?_⟩
      refine ⟨_, _, _, _, _, _, _, rfl, ⟨k0.trans k5, i5, z5, e5, h05, h15⟩, ?_⟩
      rw [List.getElem?_eq_getElem hd]
      exact hes _ (List.getElem_mem hd)
    clear hA y3 y7 y8 y9 y10 y11 hE hes hlE nE
    rintro σ H5 ⟨b, y3, y5, y8, y9, y10, y11, rfl, hA, hb⟩
    -- for sign in signs
    have hgK : ∀ H', At K HB H' p → SqL K H' g (sv lSigns) := fun H' h => SqL.of (h.keep _ _ npg hgB)
    refine ⟨_, rfl, g, rfl, ⟨_, hgK _ hA⟩, for_list (xs := sv lSigns) (fun _ σ H' => ∃ y3 y5 y8 y9 y10 y11 : Option V, σ = [some (.ref a), some (.ref p), some (.ref g), y3, some (.int (w : Int)), y5, some (.int (c : Int)), some (.int (b : Int)), y8, y9, y10, y11] ∧ At K HB H' p)
      ⟨_, _, _, _, _, _, rfl, hA⟩ (fun j σ H' _ h => ?_) ?_ ?_⟩
    · obtain ⟨_, _, _, _, _, _, _, h⟩ := h
      exact hgK _ h
    case refine_3 =>
      rintro σ H' ⟨y3, y5, y8, y9, y10, y11, rfl, hA⟩
      exact ⟨_, _, _, _, _, _, _, _, _, rfl, hA⟩
    clear hA y3 y5 y8 y9 y10 y11
    rintro j v σ H6 hv ⟨y3, y5, y8, y9, y10, y11, rfl, hA⟩
    obtain ⟨x, hx, rfl⟩ : ∃ x ∈ lSigns, v = V.str x := by
      obtain ⟨x, hx, e⟩ := List.mem_map.mp (List.mem_of_getElem? hv)
      exact ⟨x, hx, e.symm⟩
    -- single
    refine ⟨fun σ' H' => ∃ (y3 y5 y10 y11 : Option V), σ' = [some (.ref a), some (.ref p), some (.ref g), y3, some (.int (w : Int)), y5, some (.int (c : Int)), some (.int (b : Int)), some (.str x), some (.bl (decide (x ∈ lOne))), y10, y11] ∧ At K HB H' p, ?_, ?_⟩
    · refine ⟨_, rfl, by show 4 ≤ sizeLine; decide, fun l nl => ⟨l, sv lOne, rfl, .inl (SqL.of upd_same), rfl, flat_sv _, ?_⟩⟩
      exact ⟨y3, y5, y10, y11, by rw [← in_sv]; rfl, hA.same (same_new nl)⟩
    clear hA y3 y5 y8 y9 y10 y11
    rintro σ H7 ⟨y3, y5, y10, y11, rfl, hA⟩
    -- arguments_of, result_width
    refine ⟨_, rfl, x, rfl, _, rfl, .inr ⟨_, rfl, _, _, rfl, rfl, rfl, _, rfl, iteNS ?_ ?_⟩⟩
    · by_cases h : x ∈ lOne
      · rw [if_pos h, decide_eq_true h, if_pos rfl]
        rfl
      · rw [if_neg h, decide_eq_false h, if_neg Bool.false_ne_true]
        rfl
    refine ⟨_, rfl, _, rfl, x, w, rfl, _, rfl, by show 2 ≤ sizeLine; decide, fun l1 nl1 => ⟨_, rfl, by show 5 ≤ sizeLine; decide, fun l2 nl2 => ⟨l2, sv lBit2, rfl, .inl (SqL.of upd_same), rfl, flat_sv _, .inr ⟨_, rfl, ?_⟩⟩⟩⟩
    have h12 := same_new (o := .lst [V.int (w : Int), V.int 1]) nl1
    have h23 := same_new (o := .lst (sv lBit2)) nl2
    have hl1 : (upd (upd H7 l1 (.lst [V.int (w : Int), V.int 1])) l2 (.lst (sv lBit2))) l1 = some (.lst [V.int (w : Int), V.int 1]) := h23 _ _ upd_same
    have hA1 : At K HB (upd (upd H7 l1 (.lst [V.int (w : Int), V.int 1])) l2 (.lst (sv lBit2))) p := (hA.same h12).same h23
    refine ⟨l1, _, _, V.int (if x ∈ lBit then 1 else (w : Int)), rfl, rfl, SqL.of hl1, ?_, rfl, _, rfl, iteNS rfl ?_⟩
    · show atI [V.int (w : Int), V.int 1] (if (if false = true then (!inV (.str x) (sv lBit2)) else inV (.str x) (sv lBit2)) = true then 1 else 0) = _
      rw [if_neg Bool.false_ne_true, in_sv]
      by_cases h : x ∈ lBit
      · rw [decide_eq_true (mem_bit.mpr h), if_pos rfl, if_pos h]
        exact atI_nat (j := 1) rfl
      · rw [decide_eq_false (fun z => h (mem_bit.mp z)), if_neg Bool.false_ne_true, if_neg h]
        exact atI_nat (j := 0) rfl
    change tSeq _ _ _ _ (upd (upd H7 l1 (.lst [V.int (w : Int), V.int 1])) l2 (.lst (sv lBit2)))
    clear hl1 h23 h12
    generalize (upd (upd H7 l1 (.lst [V.int (w : Int), V.int 1])) l2 (.lst (sv lBit2))) = H8 at hA1 ⊢
    clear nl2 nl1 hA
    -- second
    refine ⟨_, rfl, ?_⟩
    refine ⟨fun σ' H' => ∃ (d : Nat) (y3 y5 y11 : Option V), σ' = [some (.ref a), some (.ref p), some (.ref g), y3, some (.int (w : Int)), y5, some (.int (c : Int)), some (.int (b : Int)), some (.str x), some (.bl (decide (x ∈ lOne))), some (.int (d : Int)), y11] ∧ At K HB H' p ∧ d ≤ 65535 ∧ (x ∉ lMov → d < 2 ^ w), ?_, ?_⟩
    · refine ⟨_, rfl, by show 2 ≤ sizeLine; decide, fun l nl => ⟨l, sv lMov, rfl, .inl (SqL.of upd_same), rfl, flat_sv _, _, rfl, ?_⟩⟩
      have hA2 := hA1.same (same_new (o := .lst (sv lMov)) nl)
      change if (if false = true then _ else _) = true then _ else _
      rw [in_sv]
      refine ite2 (fun h => ?_) (fun h => ?_)
      · obtain ⟨k0, i0, z0, e0, h0, h1⟩ := hA2
        refine ⟨_, rfl, _, rfl, _, rfl, _, rfl, _, _, rfl, rfl, p, a, ns, i0, z0, (w : Int) + 2, rfl, e0, h0, h1, hSc.keep k0, by omega, by omega, fun H9 i9 z9 d k9 e9 h09 h19 d0 d1 => ?_⟩
        obtain ⟨d', rfl⟩ : ∃ d' : Nat, d = (d' : Int) := ⟨d.toNat, by omega⟩
        refine ⟨by show 3 ≤ sizeLine; decide, fun m nm => ?_⟩
        have nmp : m ≠ p := fun e => by
          rw [e, e9] at nm
          cases nm
        have km := (k0.trans k9).trans (Keep.of_same (same_new (o := .lst [V.int (b : Int), V.int (d' : Int), V.int 65535]) nm))
        have em : (upd H9 m (.lst [V.int (b : Int), V.int (d' : Int), V.int 65535])) p = some (ls2 i9 z9) := (same_new nm) _ _ e9
        refine ⟨_, rfl, _, rfl, p, a, ns, i9, z9, 3, rfl, em, h09, h19, hSc.keep km, by decide, by decide, fun H10 i10 z10 d2 k10 e10 h010 h110 d20 d21 => ?_⟩
        obtain ⟨e', rfl⟩ : ∃ e' : Nat, d2 = (e' : Int) := ⟨d2.toNat, by omega⟩
        have hm10 : H10 m = some (.lst (vn [b, d', 65535])) := k10 _ _ nmp upd_same
        have he : e' < ([b, d', 65535] : List Nat).length := by
          show e' < 3
          omega
        refine ⟨m, _, _, _, rfl, rfl, SqL.of hm10, atI_nat (vn_get he), ?_⟩
        refine ⟨_, _, _, _, rfl, ⟨km.trans k10, i10, z10, e10, h010, h110⟩, ?_, fun hx => absurd (of_decide_eq_true h) hx⟩
        rw [List.getElem?_eq_getElem he]
        have := List.getElem_mem he
        simp only [List.mem_cons, List.not_mem_nil, or_false] at this
        show ([b, d', 65535] : List Nat)[e'] ≤ 65535
        omega
      · exact ⟨b, _, _, _, rfl, hA2, by omega, fun _ => hb⟩
    clear hA1 y3 y5 y10 y11
    rintro σ H9 ⟨d, y3, y5, y11, rfl, hA, hd, hdw⟩
    -- words
    refine ⟨fun σ' H' => ∃ (m : Addr) (ws : List V) (y3 y5 : Option V), σ' = [some (.ref a), some (.ref p), some (.ref g), y3, some (.int (w : Int)), y5, some (.int (c : Int)), some (.int (b : Int)), some (.str x), some (.bl (decide (x ∈ lOne))), some (.int (d : Int)), some (.ref m)] ∧ At K HB H' p ∧ H' m = some (.lst ws) ∧ ws[0]? = some (.int (c : Int)) ∧ (x ∉ lOne → ws[1]? = some (.int (d : Int))), ?_, ?_⟩
    · refine ⟨_, rfl, _, rfl, ite2 (fun h => ?_) (fun h => ?_)⟩
      · refine ⟨_, rfl, by show 1 ≤ sizeLine; decide, fun m nm => ?_⟩
        exact ⟨m, _, _, _, rfl, hA.same (same_new nm), upd_same, rfl, fun hx => absurd (of_decide_eq_true h) hx⟩
      · refine ⟨_, rfl, _, rfl, by show 2 ≤ sizeLine; decide, fun m nm => ?_⟩
        exact ⟨m, _, _, _, rfl, hA.same (same_new nm), upd_same, rfl, fun hx => rfl⟩
    clear hA y3 y5 y11
    rintro σ H10 ⟨m, ws, y3, y5, rfl, hA, hm, w0, w1⟩
    -- calculate, due
    refine ⟨_, rfl, _, rfl, _, rfl, x, w, c, d, m, ws, rfl, hw2, hc, fun _ h2 => hdw h2, .inl (SqL.of hm), w0, w1, fun H11 s11 => ?_⟩
    refine ⟨_, rfl, _, rfl, _, rfl, _, rfl, _, rfl, ite2 (fun h => ?_) (fun h => ?_)⟩
    · refine ⟨_, rfl, x, w, c, d, rfl, hx, hw1, hw, hc, hd, hdw, fun H12 s12 => ?_⟩
      refine ⟨rfl, _, rfl, iteNS rfl ?_⟩
      have hm12 : H12 m = some (.lst ws) := s12 _ _ (s11 _ _ hm)
      refine ⟨_, rfl, _, rfl, _, rfl, m, ws, rfl, .inl ⟨SqL.of hm12, fun l nl => ⟨x, w, c, d, l, ws, rfl, hw2, hc, fun _ h2 => hdw h2, .inr (SqT.of upd_same), w0, w1, fun H13 s13 => ?_⟩⟩⟩
      refine ⟨_, rfl, _, rfl, _, rfl, x, w, c, d, m, ws, rfl, hw2, hc, fun _ h2 => hdw h2, .inl (SqL.of (s13 _ _ ((same_new nl) _ _ hm12))), w0, w1, fun H14 s14 => ⟨rfl, _, rfl, iteNS rfl ?_⟩⟩
      exact ⟨_, _, _, _, _, _, rfl, ((((hA.same s11).same s12).same (same_new nl)).same s13).same s14⟩
    · have hone : x ∈ lOne := Classical.byContradiction fun z => h (by rw [decide_eq_false z]; rfl)
      refine ⟨x, w, c, 0, rfl, hx, hw1, hw, hc, by omega, fun _ => by omega, fun H12 s12 => ?_⟩
      refine ⟨rfl, _, rfl, iteNS (by rw [calc_one hone w c d 0]) ?_⟩
      have hm12 : H12 m = some (.lst ws) := s12 _ _ (s11 _ _ hm)
      refine ⟨_, rfl, _, rfl, _, rfl, m, ws, rfl, .inl ⟨SqL.of hm12, fun l nl => ⟨x, w, c, d, l, ws, rfl, hw2, hc, fun _ h2 => hdw h2, .inr (SqT.of upd_same), w0, w1, fun H13 s13 => ?_⟩⟩⟩
      refine ⟨_, rfl, _, rfl, _, rfl, x, w, c, d, m, ws, rfl, hw2, hc, fun _ h2 => hdw h2, .inl (SqL.of (s13 _ _ ((same_new nl) _ _ hm12))), w0, w1, fun H14 s14 => ⟨rfl, _, rfl, iteNS rfl ?_⟩⟩
      exact ⟨_, _, _, _, _, _, rfl, ((((hA.same s11).same s12).same (same_new nl)).same s13).same s14⟩
end
end K1
namespace K1
open PySem PySem.Spec PyProof.Rows L2
theorem sqt_of {K : PySem.W.Frag} {a : Addr} {xs : List V} {dd : Option Addr} {its : Array Value} {n : Nat} {sl : Array (Option Value)} (l : K.lookup a = some ⟨.type "tuple", dd, .seq its n, sl⟩) (z : its.size ≤ sizeLine) (v : Vals xs its.toList) : ∀ H, SqT K H a xs :=
  fun H => .inr ⟨_, its, n, l, rfl, rfl, z, v⟩

theorem all_mk {l : PySem.W.OpenLaw} {w : World} {K : PySem.W.Frag} {h : Heap} {mg : Str → Option Value} {fa f1 f2 f3 f4 f5 f6 f7 f8 f9 f10 f11 f12 aS aO aB aM : Addr} (X : K.In h) (G : h.Ns mainGlobals mg) (hfa : mg "law" = some (.ref fa))
    {od1 an1 od2 an2 od3 an3 od4 an4 od5 an5 od6 an6 od7 an7 od8 an8 od9 an9 od10 an10 od11 an11 od12 an12 : Option Addr} {sl1 sl2 sl3 sl4 sl5 sl6 sl7 sl8 sl9 sl10 sl11 sl12 : Array (Option Value)} {oc1 kV1 dc1 pm1 cd1 ct1 oc2 kV2 dc2 pm2 cd2 ct2 oc3 kV3 dc3 pm3 cd3 ct3 oc4 kV4 dc4 pm4 cd4 ct4 oc5 kV5 dc5 pm5 cd5 ct5 oc6 kV6 dc6 pm6 cd6 ct6 oc7 kV7 dc7 pm7 cd7 ct7 oc8 kV8 dc8 pm8 cd8 ct8 oc9 kV9 dc9 pm9 cd9 ct9 oc10 kV10 dc10 pm10 cd10 ct10 oc11 kV11 dc11 pm11 cd11 ct11 oc12 kV12 dc12 pm12 cd12 ct12 : Value}
    {ddS ddO ddB ddM : Option Addr} {itS itO itB itM : Array Value} {nS nO nB nM : Nat} {slS slO slB slM : Array (Option Value)}
    (a1 : PySem.W.nsIn K mainGlobals "arguments_of" = some (some (.ref f1))) (l1 : K.lookup f1 = some ⟨oc1, od1, .func (PySem.W.fnOf "arguments_of" "arguments_of" (defArgs s_arguments_of) (defBody s_arguments_of) (defScope s_arguments_of) .none kV1 dc1 pm1 an1 cd1 ct1), sl1⟩) (c1 : PySem.W.codeIn K cd1 "arguments_of" = true) (k1 : PySem.W.keepIn K (.ref f1) = true)
    (a2 : PySem.W.nsIn K mainGlobals "result_width" = some (some (.ref f2))) (l2 : K.lookup f2 = some ⟨oc2, od2, .func (PySem.W.fnOf "result_width" "result_width" (defArgs s_result_width) (defBody s_result_width) (defScope s_result_width) .none kV2 dc2 pm2 an2 cd2 ct2), sl2⟩) (c2 : PySem.W.codeIn K cd2 "result_width" = true) (k2 : PySem.W.keepIn K (.ref f2) = true)
    (a3 : PySem.W.nsIn K mainGlobals "calculate" = some (some (.ref f3))) (l3 : K.lookup f3 = some ⟨oc3, od3, .func (PySem.W.fnOf "calculate" "calculate" (defArgs s_calculate) (defBody s_calculate) (defScope s_calculate) .none kV3 dc3 pm3 an3 cd3 ct3), sl3⟩) (c3 : PySem.W.codeIn K cd3 "calculate" = true) (k3 : PySem.W.keepIn K (.ref f3) = true)
    (a4 : PySem.W.nsIn K mainGlobals "remainder" = some (some (.ref f4))) (l4 : K.lookup f4 = some ⟨oc4, od4, .func (PySem.W.fnOf "remainder" "remainder" (defArgs s_remainder) (defBody s_remainder) (defScope s_remainder) .none kV4 dc4 pm4 an4 cd4 ct4), sl4⟩) (c4 : PySem.W.codeIn K cd4 "remainder" = true) (k4 : PySem.W.keepIn K (.ref f4) = true)
    (a5 : PySem.W.nsIn K mainGlobals "_of_one" = some (some (.ref f5))) (l5 : K.lookup f5 = some ⟨oc5, od5, .func (PySem.W.fnOf "_of_one" "_of_one" (defArgs s__of_one) (defBody s__of_one) (defScope s__of_one) .none kV5 dc5 pm5 an5 cd5 ct5), sl5⟩) (c5 : PySem.W.codeIn K cd5 "_of_one" = true) (k5 : PySem.W.keepIn K (.ref f5) = true)
    (a6 : PySem.W.nsIn K mainGlobals "_moved" = some (some (.ref f6))) (l6 : K.lookup f6 = some ⟨oc6, od6, .func (PySem.W.fnOf "_moved" "_moved" (defArgs s__moved) (defBody s__moved) (defScope s__moved) .none kV6 dc6 pm6 an6 cd6 ct6), sl6⟩) (c6 : PySem.W.codeIn K cd6 "_moved" = true) (k6 : PySem.W.keepIn K (.ref f6) = true)
    (a7 : PySem.W.nsIn K mainGlobals "_of_two" = some (some (.ref f7))) (l7 : K.lookup f7 = some ⟨oc7, od7, .func (PySem.W.fnOf "_of_two" "_of_two" (defArgs s__of_two) (defBody s__of_two) (defScope s__of_two) .none kV7 dc7 pm7 an7 cd7 ct7), sl7⟩) (c7 : PySem.W.codeIn K cd7 "_of_two" = true) (k7 : PySem.W.keepIn K (.ref f7) = true)
    (a8 : PySem.W.nsIn K mainGlobals "_law_draw" = some (some (.ref f8))) (l8 : K.lookup f8 = some ⟨oc8, od8, .func (PySem.W.fnOf "_law_draw" "_law_draw" (defArgs s__law_draw) (defBody s__law_draw) (defScope s__law_draw) .none kV8 dc8 pm8 an8 cd8 ct8), sl8⟩) (c8 : PySem.W.codeIn K cd8 "_law_draw" = true) (k8 : PySem.W.keepIn K (.ref f8) = true)
    (a9 : PySem.W.nsIn K mainGlobals "_law_bits" = some (some (.ref f9))) (l9 : K.lookup f9 = some ⟨oc9, od9, .func (PySem.W.fnOf "_law_bits" "_law_bits" (defArgs s__law_bits) (defBody s__law_bits) (defScope s__law_bits) .none kV9 dc9 pm9 an9 cd9 ct9), sl9⟩) (c9 : PySem.W.codeIn K cd9 "_law_bits" = true) (k9 : PySem.W.keepIn K (.ref f9) = true)
    (a10 : PySem.W.nsIn K mainGlobals "_law_number" = some (some (.ref f10))) (l10 : K.lookup f10 = some ⟨oc10, od10, .func (PySem.W.fnOf "_law_number" "_law_number" (defArgs s__law_number) (defBody s__law_number) (defScope s__law_number) .none kV10 dc10 pm10 an10 cd10 ct10), sl10⟩) (c10 : PySem.W.codeIn K cd10 "_law_number" = true) (k10 : PySem.W.keepIn K (.ref f10) = true)
    (a11 : PySem.W.nsIn K mainGlobals "_law_due" = some (some (.ref f11))) (l11 : K.lookup f11 = some ⟨oc11, od11, .func (PySem.W.fnOf "_law_due" "_law_due" (defArgs s__law_due) (defBody s__law_due) (defScope s__law_due) .none kV11 dc11 pm11 an11 cd11 ct11), sl11⟩) (c11 : PySem.W.codeIn K cd11 "_law_due" = true) (k11 : PySem.W.keepIn K (.ref f11) = true)
    (a12 : PySem.W.nsIn K mainGlobals "law" = some (some (.ref f12))) (l12 : K.lookup f12 = some ⟨oc12, od12, .func (PySem.W.fnOf "law" "law" (defArgs s_law) (defBody s_law) (defScope s_law) .none kV12 dc12 pm12 an12 cd12 ct12), sl12⟩) (c12 : PySem.W.codeIn K cd12 "law" = true) (k12 : PySem.W.keepIn K (.ref f12) = true)
    (aS1 : PySem.W.nsIn K mainGlobals "SIGNS" = some (some (.ref aS))) (lS1 : K.lookup aS = some ⟨.type "tuple", ddS, .seq itS nS, slS⟩) (zS1 : itS.size ≤ sizeLine) (vS1 : Vals (sv lSigns) itS.toList)
    (aO1 : PySem.W.nsIn K mainGlobals "SIGNS_OF_ONE" = some (some (.ref aO))) (lO1 : K.lookup aO = some ⟨.type "tuple", ddO, .seq itO nO, slO⟩) (zO1 : itO.size ≤ sizeLine) (vO1 : Vals (sv lOne) itO.toList)
    (aB1 : PySem.W.nsIn K mainGlobals "SIGNS_TO_A_BIT" = some (some (.ref aB))) (lB1 : K.lookup aB = some ⟨.type "tuple", ddB, .seq itB nB, slB⟩) (zB1 : itB.size ≤ sizeLine) (vB1 : Vals (sv lBit) itB.toList)
    (aM1 : PySem.W.nsIn K mainGlobals "MOVES" = some (some (.ref aM))) (lM1 : K.lookup aM = some ⟨.type "tuple", ddM, .seq itM nM, slM⟩) (zM1 : itM.size ≤ sizeLine) (vM1 : Vals (sv lMov) itM.toList)
    (z_int : PySem.W.nsIn K mainGlobals "int" = some none)
    (z_isinstance : PySem.W.nsIn K mainGlobals "isinstance" = some none)
    (z_len : PySem.W.nsIn K mainGlobals "len" = some none)
    (z_list : PySem.W.nsIn K mainGlobals "list" = some none)
    (z_min : PySem.W.nsIn K mainGlobals "min" = some none)
    (z_range : PySem.W.nsIn K mainGlobals "range" = some none)
    (z_sum : PySem.W.nsIn K mainGlobals "sum" = some none)
    (z_tuple : PySem.W.nsIn K mainGlobals "tuple" = some none) :
    ∃ fd : FuncData, (∀ (s : Shared) (v : Value), BindsTo s fd ⟨[v], []⟩ [("script", v)]) ∧ ∀ base : Heap, K.In base → base.Ns mainGlobals mg → FnOk l.prog w K mg base CX0 4 fa fd ["script"] (spLaw K) := by
  have e := hfa.symm.trans (PySem.W.mg_of X G a12)
  cases e
  have T : Txt K mg aS aO aB aM := ⟨PySem.W.mg_of X G aS1, PySem.W.mg_of X G aO1, PySem.W.mg_of X G aB1, PySem.W.mg_of X G aM1, ⟨_, lS1, rfl⟩, sqt_of lS1 zS1 vS1, sqt_of lO1 zO1 vO1, sqt_of lB1 zB1 vB1, sqt_of lM1 zM1 vM1, PySem.W.mg_none_of X G z_int, PySem.W.mg_none_of X G z_isinstance, PySem.W.mg_none_of X G z_len, PySem.W.mg_none_of X G z_list, PySem.W.mg_none_of X G z_min, PySem.W.mg_none_of X G z_range, PySem.W.mg_none_of X G z_sum, PySem.W.mg_none_of X G z_tuple⟩
  have F1 := fun_mk (st := s_arguments_of) l1 c1 k1
  have D1 : Def K mg "arguments_of" f1 _ ["sign"] := ⟨PySem.W.mg_of X G a1, F1.kp, F1.binds (ps := ["sign"]) fun _ _ _ _ _ _ us hl => match us, hl with | [_], _ => rfl⟩
  have F2 := fun_mk (st := s_result_width) l2 c2 k2
  have D2 : Def K mg "result_width" f2 _ ["sign", "width"] := ⟨PySem.W.mg_of X G a2, F2.kp, F2.binds (ps := ["sign", "width"]) fun _ _ _ _ _ _ us hl => match us, hl with | [_, _], _ => rfl⟩
  have F3 := fun_mk (st := s_calculate) l3 c3 k3
  have D3 : Def K mg "calculate" f3 _ ["sign", "width", "words"] := ⟨PySem.W.mg_of X G a3, F3.kp, F3.binds (ps := ["sign", "width", "words"]) fun _ _ _ _ _ _ us hl => match us, hl with | [_, _, _], _ => rfl⟩
  have F4 := fun_mk (st := s_remainder) l4 c4 k4
  have D4 : Def K mg "remainder" f4 _ ["number", "width"] := ⟨PySem.W.mg_of X G a4, F4.kp, F4.binds (ps := ["number", "width"]) fun _ _ _ _ _ _ us hl => match us, hl with | [_, _], _ => rfl⟩
  have F5 := fun_mk (st := s__of_one) l5 c5 k5
  have D5 : Def K mg "_of_one" f5 _ ["sign", "width", "word"] := ⟨PySem.W.mg_of X G a5, F5.kp, F5.binds (ps := ["sign", "width", "word"]) fun _ _ _ _ _ _ us hl => match us, hl with | [_, _, _], _ => rfl⟩
  have F6 := fun_mk (st := s__moved) l6 c6 k6
  have D6 : Def K mg "_moved" f6 _ ["sign", "width", "word", "by"] := ⟨PySem.W.mg_of X G a6, F6.kp, F6.binds (ps := ["sign", "width", "word", "by"]) fun _ _ _ _ _ _ us hl => match us, hl with | [_, _, _, _], _ => rfl⟩
  have F7 := fun_mk (st := s__of_two) l7 c7 k7
  have D7 : Def K mg "_of_two" f7 _ ["sign", "width", "first", "second"] := ⟨PySem.W.mg_of X G a7, F7.kp, F7.binds (ps := ["sign", "width", "first", "second"]) fun _ _ _ _ _ _ us hl => match us, hl with | [_, _, _, _], _ => rfl⟩
  have F8 := fun_mk (st := s__law_draw) l8 c8 k8
  have D8 : Def K mg "_law_draw" f8 _ ["state", "script", "size"] := ⟨PySem.W.mg_of X G a8, F8.kp, F8.binds (ps := ["state", "script", "size"]) fun _ _ _ _ _ _ us hl => match us, hl with | [_, _, _], _ => rfl⟩
  have F9 := fun_mk (st := s__law_bits) l9 c9 k9
  have D9 : Def K mg "_law_bits" f9 _ ["word", "width"] := ⟨PySem.W.mg_of X G a9, F9.kp, F9.binds (ps := ["word", "width"]) fun _ _ _ _ _ _ us hl => match us, hl with | [_, _], _ => rfl⟩
  have F10 := fun_mk (st := s__law_number) l10 c10 k10
  have D10 : Def K mg "_law_number" f10 _ ["bits"] := ⟨PySem.W.mg_of X G a10, F10.kp, F10.binds (ps := ["bits"]) fun _ _ _ _ _ _ us hl => match us, hl with | [_], _ => rfl⟩
  have F11 := fun_mk (st := s__law_due) l11 c11 k11
  have D11 : Def K mg "_law_due" f11 _ ["sign", "width", "one", "two"] := ⟨PySem.W.mg_of X G a11, F11.kp, F11.binds (ps := ["sign", "width", "one", "two"]) fun _ _ _ _ _ _ us hl => match us, hl with | [_, _, _, _], _ => rfl⟩
  have F12 := fun_mk (st := s_law) l12 c12 k12
  refine ⟨PySem.W.fnOf "law" "law" (defArgs s_law) (defBody s_law) (defScope s_law) .none kV12 dc12 pm12 an12 cd12 ct12, fun s v => .of_eq rfl, fun base _ _ => ?_⟩
  have G1 : FnOk l.prog w K mg base CX0 1 f1 _ ["sign"] spArg := ok_arg F1 T
  have G2 : FnOk l.prog w K mg base CX0 1 f2 _ ["sign", "width"] spRes := ok_res F2 T
  have G4 : FnOk l.prog w K mg base CX0 1 f4 _ ["number", "width"] spRem := ok_rem F4
  have G5 : FnOk l.prog w K mg base CX0 1 f5 _ ["sign", "width", "word"] spOne := ok_one F5 T
  have G6 : FnOk l.prog w K mg base CX0 2 f6 _ ["sign", "width", "word", "by"] spMov := ok_mov F6 G4 D4
  have G7 : FnOk l.prog w K mg base CX0 2 f7 _ ["sign", "width", "first", "second"] spTwo := ok_two F7 G4 D4
  have G3 : FnOk l.prog w K mg base CX0 3 f3 _ ["sign", "width", "words"] (spCalc K) := ok_calc F3 T G4 D4 G5 D5 G6 D6 G7 D7
  have G8 : FnOk l.prog w K mg base CX0 1 f8 _ ["state", "script", "size"] (spDraw K) := ok_draw F8 T
  have G9 : FnOk l.prog w K mg base CX0 1 f9 _ ["word", "width"] spBits := ok_bits F9 T
  have G10 : FnOk l.prog w K mg base CX0 1 f10 _ ["bits"] (spNum K) := ok_num F10 T
  have G11 : FnOk l.prog w K mg base CX0 2 f11 _ ["sign", "width", "one", "two"] spDue := ok_due F11 T G9 D9 G10 D10
  exact ok_law F12 T G1 D1 G2 D2 G3 D3 G8 D8 G11 D11
end K1
open PySem PySem.W PyProof.Rows
set_option maxHeartbeats 0 in
theorem PySem.Challenge.cw_cellcloth_k01_signs_on_words_holds : PySem.Challenge.rw_cellcloth_k01_signs_on_words.Holds := by
  w_on; o_law; k_head; (case hw => w_witness2)
  k_fill
  refine L2.walk_of (l := PySem.Challenge.rw_cellcloth_k01_signs_on_words) (n := 63) (k := 4) (x := "script") (CX := fun _ => L2.CX0) (sp := fun w => K1.spLaw _) rfl (by decide) rfl ⟨rfl, by decide, by decide⟩ (fun w h Y => PySem.W.kIn_of Y) ?F (fun _ _ a ns hl _ hS => ⟨a, ns, rfl, hS, hl, fun _ => rfl⟩) (fun _ _ _ _ _ h => h)
  case F =>
    intro w mg fa h KX G hmg
    refine' K1.all_mk KX G hmg ?a1 ?l1 ?c1 ?k1 ?a2 ?l2 ?c2 ?k2 ?a3 ?l3 ?c3 ?k3 ?a4 ?l4 ?c4 ?k4 ?a5 ?l5 ?c5 ?k5 ?a6 ?l6 ?c6 ?k6 ?a7 ?l7 ?c7 ?k7 ?a8 ?l8 ?c8 ?k8 ?a9 ?l9 ?c9 ?k9 ?a10 ?l10 ?c10 ?k10 ?a11 ?l11 ?c11 ?k11 ?a12 ?l12 ?c12 ?k12 ?aS1 ?lS1 ?zS1 ?vS1 ?aO1 ?lO1 ?zO1 ?vO1 ?aB1 ?lB1 ?zB1 ?vB1 ?aM1 ?lM1 ?zM1 ?vM1 ?z_int ?z_isinstance ?z_len ?z_list ?z_min ?z_range ?z_sum ?z_tuple
    (case a1 => k_is)
    (case l1 => k_is)
    (case c1 => k_is)
    (case k1 => k_is)
    (case a2 => k_is)
    (case l2 => k_is)
    (case c2 => k_is)
    (case k2 => k_is)
    (case a3 => k_is)
    (case l3 => k_is)
    (case c3 => k_is)
    (case k3 => k_is)
    (case a4 => k_is)
    (case l4 => k_is)
    (case c4 => k_is)
    (case k4 => k_is)
    (case a5 => k_is)
    (case l5 => k_is)
    (case c5 => k_is)
    (case k5 => k_is)
    (case a6 => k_is)
    (case l6 => k_is)
    (case c6 => k_is)
    (case k6 => k_is)
    (case a7 => k_is)
    (case l7 => k_is)
    (case c7 => k_is)
    (case k7 => k_is)
    (case a8 => k_is)
    (case l8 => k_is)
    (case c8 => k_is)
    (case k8 => k_is)
    (case a9 => k_is)
    (case l9 => k_is)
    (case c9 => k_is)
    (case k9 => k_is)
    (case a10 => k_is)
    (case l10 => k_is)
    (case c10 => k_is)
    (case k10 => k_is)
    (case a11 => k_is)
    (case l11 => k_is)
    (case c11 => k_is)
    (case k11 => k_is)
    (case a12 => k_is)
    (case l12 => k_is)
    (case c12 => k_is)
    (case k12 => k_is)
    (case aS1 => k_is)
    (case lS1 => k_is)
    (case zS1 => decide)
    (case vS1 => exact .cons ⟨_, rfl⟩ (.cons ⟨_, rfl⟩ (.cons ⟨_, rfl⟩ (.cons ⟨_, rfl⟩ (.cons ⟨_, rfl⟩ (.cons ⟨_, rfl⟩ (.cons ⟨_, rfl⟩ (.cons ⟨_, rfl⟩ (.cons ⟨_, rfl⟩ (.cons ⟨_, rfl⟩ (.cons ⟨_, rfl⟩ (.cons ⟨_, rfl⟩ (.cons ⟨_, rfl⟩ (.cons ⟨_, rfl⟩ (.nil)))))))))))))))
    (case aO1 => k_is)
    (case lO1 => k_is)
    (case zO1 => decide)
    (case vO1 => exact .cons ⟨_, rfl⟩ (.cons ⟨_, rfl⟩ (.cons ⟨_, rfl⟩ (.cons ⟨_, rfl⟩ (.nil)))))
    (case aB1 => k_is)
    (case lB1 => k_is)
    (case zB1 => decide)
    (case vB1 => exact .cons ⟨_, rfl⟩ (.cons ⟨_, rfl⟩ (.cons ⟨_, rfl⟩ (.cons ⟨_, rfl⟩ (.cons ⟨_, rfl⟩ (.nil))))))
    (case aM1 => k_is)
    (case lM1 => k_is)
    (case zM1 => decide)
    (case vM1 => exact .cons ⟨_, rfl⟩ (.cons ⟨_, rfl⟩ (.nil)))
    (case z_int => k_is)
    (case z_isinstance => k_is)
    (case z_len => k_is)
    (case z_list => k_is)
    (case z_min => k_is)
    (case z_range => k_is)
    (case z_sum => k_is)
    (case z_tuple => k_is)
