import PyProof.Rows.All
import Wide.All
import OpenK.AllK
import Wide.FinOn
import HandS.ForMost
import HandS.Wide
import HandS.More
import HandS.StrMore
import HandS.FStr
import HandS.IsInst
import HandS.TupAny
import HandS.Style
import HandS.Exc
import HandS.TryOnly
import HandS.ExcOwn
import HandS.WordsExc
import HandS.Evl
import HandS.Codes
import HandS.SortKw
import KE.DatumOrd
import HandS.Replace
import HandS.ReplaceList
import HandS.TryMany
import HandS.RaiseMore
import PySem.Challenge.RW_heldpasts_k21_value_codes
set_option Elab.async false
set_option linter.all false
set_option maxRecDepth 100000
set_option maxHeartbeats 4000000
/-! ### my rules: one name an operator, whatever the kinds -/
namespace My
open PySem PySem.Spec PyProof.Rows L2
section
variable {X : Cx}
theorem hu_64 {A : Around} {k : Nat} (hr : Room k A) : A.units + 64 < cLine := hr.units
/-! #### + -/
def rAddS : R2 := fun x y H Q => ∃ i j, x = .str i ∧ y = .str j ∧ i.length + j.length ≤ sizeLine ∧ Q (.str (i ++ j)) H
def rADD (K : PySem.W.Frag) : R2 := fun x y H Q => rI0 (fun i j => .int (i + j)) x y H Q ∨ rAddS x y H Q ∨ rCat x y H Q ∨ rCatA K x y H Q
theorem op_ADD : OpR X (binaryOp .Add) (rADD X.K) := op_add.or (OpR.or (r := rAddS) op_add_str (op_cat.or op_catA))
def rSUB : R2 := rI0 fun i j => .int (i - j)
theorem op_SUB : OpR X (binaryOp .Sub) rSUB := op_sub
/-! #### * -/
theorem cps_repl (l : Array Nat) (k : Nat) : (List.replicate k l).foldl (· ++ ·) #[] = ((List.replicate k l.toList).flatten).toArray := by
  have h : ∀ (n : Nat) (acc : Array Nat), (List.replicate n l).foldl (· ++ ·) acc = acc ++ ((List.replicate n l.toList).flatten).toArray := by
    intro n
    induction n with
    | zero => intro acc; simp
    | succ n ih =>
      intro acc
      rw [List.replicate_succ, List.foldl_cons, ih, List.replicate_succ, List.flatten_cons]
      apply Array.ext'
      simp
  rw [h]
  simp
/-- a text so many times -/
def repS (x : Str) (k : Int) : Str := ⟨((List.replicate k.toNat x.cps.toList).flatten).toArray⟩
def rMulS : R2 := fun x y H Q => ∃ z k, x = .str z ∧ y = .int k ∧ -(2 ^ 63) ≤ k ∧ k < 2 ^ 63 ∧ z.length * k.toNat ≤ sizeLine ∧ Q (.str (repS z k)) H
theorem op_mul_str : OpR X (binaryOp .Mult) rMulS := by
  intro pins s σ H x y v u Q I rx ry h
  obtain ⟨z, k, rfl, rfl, h1, h2, hz, q⟩ := h
  obtain ⟨t, rfl⟩ := rx
  obtain ⟨t', rfl⟩ := ry
  have hz' : z.length * k.toNat ≤ 2 ^ 24 := hz
  refine P.mul_str ?_ ?_ ?_ ?_
  · rw [decide_eq_false (by omega), decide_eq_false (by omega)]; rfl
  · intro h1 h3
    have hk : 0 < k := by omega
    have h4 : (z.length : Int) * k ≤ 2 ^ 24 := by
      have : ((z.length * k.toNat : Nat) : Int) ≤ 2 ^ 24 := by exact_mod_cast hz'
      rw [Int.natCast_mul, Int.toNat_of_nonneg (by omega)] at this
      exact this
    intro h5
    have h6 : (2 ^ 63 - 1) / k < (z.length : Int) := h5
    have h7 := (Int.ediv_lt_iff_lt_mul hk).mp h6
    omega
  · intro h1 h3
    exact decide_eq_false (Nat.not_lt.mpr hz)
  · by_cases h3 : k < 1
    · rw [if_pos h3]
      have e : repS z k = Str.empty := by
        unfold repS
        rw [show k.toNat = 0 by omega]
        rfl
      rw [e] at q
      exact ⟨by decide, ⟨.str Str.empty, H, I.tok _, ⟨_, rfl⟩, q⟩⟩
    · rw [if_neg h3]
      by_cases h4 : (k == 1 || z.length == 0) = true
      · rw [if_pos h4]
        have e : repS z k = z := by
          unfold repS
          rcases Bool.or_eq_true _ _ ▸ h4 with h5 | h5
          · rw [show k.toNat = 1 by have := of_decide_eq_true h5; omega]
            simp
          · have h6 : z.length = 0 := by simpa using h5
            have h7 : z.cps.toList = [] := by
              apply List.eq_nil_of_length_eq_zero
              rw [Array.length_toList]
              exact h6
            rw [h7]
            rcases z with ⟨c⟩
            have h8 : c = #[] := Array.ext' (by simpa using h7)
            subst h8
            simp
        rw [e] at q
        exact ⟨.str z, H, I, ⟨_, rfl⟩, q⟩
      · rw [if_neg h4]
        refine ⟨?_, ⟨.str (repS z k), H, I.tok _, ⟨s.toks, ?_⟩, q⟩⟩
        · show Str.length ⟨_⟩ ≤ sizeLine
          rw [cps_repl]
          show (List.toArray _).size ≤ sizeLine
          rw [List.size_toArray, List.length_flatten, List.map_replicate, List.sum_replicate_nat, Array.length_toList]
          show k.toNat * z.length ≤ sizeLine
          rw [Nat.mul_comm]
          exact hz
        · rw [cps_repl]
          rfl
def CMulA (i j : Int) : Prop := CMul i j ∨ CMulW i j
def rMulI : R2 := fun x y H Q => ∃ i j, x = .int i ∧ y = .int j ∧ CMulA i j ∧ Q (.int (i * j)) H
theorem op_mulA : OpR X (binaryOp .Mult) rMulI := opI fun _ _ _ _ _ _ _ hc q => mul_int q (hc.elim (fun h => h.ok) fun h => h.ok)
def rMUL (K : PySem.W.Frag) : R2 := fun x y H Q => rMulI x y H Q ∨ rMulS x y H Q ∨ rRep x y H Q
theorem op_MUL : OpR X (binaryOp .Mult) (rMUL X.K) := op_mulA.or (op_mul_str.or op_rep)
/-! #### //, percent, ** -/
def rMOD : R2 := rI (fun _ j => 0 < j) fun i j => .int (i % j)
theorem op_MOD : OpR X (binaryOp .Mod) rMOD := op_mod
def rFDIV : R2 := rI CDivW fun i j => .int (i / j)
theorem op_FDIV : OpR X (binaryOp .FloorDiv) rFDIV := op_fdivW
def rPOW : R2 := rI CPow fun i j => .int (i ^ j.toNat)
theorem op_POW : OpR X (binaryOp .Pow) rPOW := op_pow
def rNEG : V → Hp → VK → Prop := rU fun i => .int (-i)
theorem un_NEG : UnR X (unaryOp .USub) rNEG := un_neg
/-! #### comparisons -/
def rEQ (K : PySem.W.Frag) : R2 := fun x y H Q => rEq x y H Q ∨ rEqD K x y H Q
theorem op_EQ (hu : X.A.units + 64 < cLine) : OpR X (compareOp .Eq) (rEQ X.K) := op_eq.or (op_eqD hu)
def rNE (K : PySem.W.Frag) : R2 := fun x y H Q => rNe x y H Q ∨ rNeD K x y H Q
theorem op_NE (hu : X.A.units + 64 < cLine) : OpR X (compareOp .NotEq) (rNE X.K) := op_ne.or (op_neD hu)
def rCI (p : Int → Int → Bool) : R2 := rI0 fun i j => .bl (p i j)
def rCS (p : List Nat → List Nat → Bool) : R2 := fun x y H Q => ∃ i j, x = .str i ∧ y = .str j ∧ Q (.bl (p i.cps.toList j.cps.toList)) H
def rLT : R2 := fun x y H Q => rCI (fun i j => decide (i < j)) x y H Q ∨ rCS (fun i j => decide (i < j)) x y H Q
theorem op_LT : OpR X (compareOp .Lt) rLT := OpR.or (r := rCI _) (r' := rCS _) op_lt op_lt_str
def rLE : R2 := fun x y H Q => rCI (fun i j => decide (i ≤ j)) x y H Q ∨ rCS (fun i j => !decide (j < i)) x y H Q
theorem op_LE : OpR X (compareOp .LtE) rLE := OpR.or (r := rCI _) (r' := rCS _) op_le op_le_str
def rGT : R2 := fun x y H Q => rCI (fun i j => decide (j < i)) x y H Q ∨ rCS (fun i j => decide (j < i)) x y H Q
theorem op_GT : OpR X (compareOp .Gt) rGT := OpR.or (r := rCI _) (r' := rCS _) op_gt op_gt_str
def rGE : R2 := fun x y H Q => rCI (fun i j => decide (j ≤ i)) x y H Q ∨ rCS (fun i j => !decide (i < j)) x y H Q
theorem op_GE : OpR X (compareOp .GtE) rGE := OpR.or (r := rCI _) (r' := rCS _) op_ge op_ge_str
/-- is: None; types; a truth on the right -/
def rIsT (f : Bool → Bool) : R2 := fun x y H Q => ∃ b, y = .bl b ∧ Q (.bl (f (decide (x = .bl b)))) H
theorem op_is_true : OpR X (compareOp .Is) (rIsT id) := by
  intro pins s σ H x y v u Q I rx ry h
  obtain ⟨b, rfl, q⟩ := h
  cases (show u = Value.bool b from ry)
  by_cases e : x = .bl b
  · subst e
    cases (show v = Value.bool b from rx)
    exact wpAny_is_self rfl ⟨.bl true, H, I, rfl, by simpa using q⟩
  · have ne : v ≠ Value.bool b := by
      rintro rfl
      apply e
      cases x <;> first
        | (cases rx; done)
        | (cases rx; rfl)
        | (obtain ⟨t, z⟩ := rx; cases z)
    have hp : plainIs v (Value.bool b) = true := by
      cases x <;> first
        | (cases rx; rfl)
        | (obtain ⟨t, rfl⟩ := rx; rfl)
    exact wpAny_is_other hp ne ⟨.bl false, H, I, rfl, by simpa [e] using q⟩
theorem op_isnot_true : OpR X (compareOp .IsNot) (rIsT not) := by
  intro pins s σ H x y v u Q I rx ry h
  obtain ⟨b, rfl, q⟩ := h
  cases (show u = Value.bool b from ry)
  by_cases e : x = .bl b
  · subst e
    cases (show v = Value.bool b from rx)
    exact wpAny_isNot_self rfl ⟨.bl false, H, I, rfl, by simpa using q⟩
  · have ne : v ≠ Value.bool b := by
      rintro rfl
      apply e
      cases x <;> first
        | (cases rx; done)
        | (cases rx; rfl)
        | (obtain ⟨t, z⟩ := rx; cases z)
    have hp : plainIs v (Value.bool b) = true := by
      cases x <;> first
        | (cases rx; rfl)
        | (obtain ⟨t, rfl⟩ := rx; rfl)
    exact wpAny_isNot_other hp ne ⟨.bl true, H, I, rfl, by simpa [e] using q⟩
def rIsN1 (f : Bool → Bool) : R2 := fun x y H Q => y = .non ∧ Q (.bl (f (decide (x = .non)))) H
def rIsTy (f : Bool → Bool) : R2 := fun x y H Q => ∃ m n, x = .ty m ∧ y = .ty n ∧ Q (.bl (f (decide (m = n)))) H
def rIS (_ : PySem.W.Frag) : R2 := fun x y H Q => rIsN1 id x y H Q ∨ rIsTy id x y H Q ∨ rIsT id x y H Q
theorem op_IS : OpR X (compareOp .Is) (rIS X.K) := OpR.or (r := rIsN1 id) op_isN (OpR.or (r := rIsTy id) op_isTyB op_is_true)
def rISN (_ : PySem.W.Frag) : R2 := fun x y H Q => rIsN1 not x y H Q ∨ rIsTy not x y H Q ∨ rIsT not x y H Q
theorem op_ISN : OpR X (compareOp .IsNot) (rISN X.K) := OpR.or (r := rIsN1 not) op_notN (OpR.or (r := rIsTy not) op_notTyB op_isnot_true)
/-- in: a sign in a text; in a list or tuple -/
def rInSg (f : Bool → Bool) : R2 := fun x y H Q => ∃ (c : Nat) (z : Str), x = .str ⟨#[c]⟩ ∧ y = .str z ∧ Q (.bl (f (decide (c ∈ z.cps.toList)))) H
def rINU (K : PySem.W.Frag) : R2 := fun x y H Q => rInSg id x y H Q ∨ rIn K false x y H Q
theorem op_IN : OpR X (compareOp .In) (rINU X.K) := OpR.or (r := rInSg id) op_in_sign op_in_seq
def rNINU (K : PySem.W.Frag) : R2 := fun x y H Q => rInSg not x y H Q ∨ rIn K true x y H Q
theorem op_NIN : OpR X (compareOp .NotIn) (rNINU X.K) := OpR.or (r := rInSg not) op_notIn_sign op_notIn_seq
/-! #### subscripts, slices -/
def rIX (K : PySem.W.Frag) : R2 := rIx K
theorem ix_SEQ : IxR X (rIX X.K) := ix_seq
def rSL (K : PySem.W.Frag) : V → Option Int → Option Int → Hp → VK → Prop := fun x lo hi H Q => rSlS x lo hi H Q ∨ rSlL K x lo hi H Q ∨ rSlA K x lo hi H Q
theorem sl_SEQ : SlR X (rSL X.K) := SlR.or sl_str (SlR.or sl_list sl_tupA)
/-! #### tests -/
def tTru1 (K : PySem.W.Frag) (ta : TE) : TT := fun σ H Q => ta σ H fun x H' => ∃ k, TruV K x H' k ∧ Q k H'
theorem pt_tru {a : Expr} {ta : TE} (ha : PE X a ta) (he : ∀ whole, isTrue a X.env whole = (do let v ← whole; standAt a.pos; holding [v] (truthy v))) : PT X a (tTru1 X.K ta) := pt_truth ha he
/-! #### the module's constants -/
theorem pe_cI {x : Str} {i : Int} {pos : Pos} (hg : Gl X x) (h : ∃ t, X.mg x = some (.int i t)) (hd : (x == ("__debug__" : Str)) = false := by decide) : PE X (.Name x pos) (tC (.int i)) := by
  obtain ⟨t, h⟩ := h
  exact pe_glob hg h ⟨t, rfl⟩ hd
theorem pe_cS {x : Str} {i : Str} {pos : Pos} (hg : Gl X x) (h : ∃ t, X.mg x = some (.str i t)) (hd : (x == ("__debug__" : Str)) = false := by decide) : PE X (.Name x pos) (tC (.str i)) := by
  obtain ⟨t, h⟩ := h
  exact pe_glob hg h ⟨t, rfl⟩ hd
theorem pe_cR {x : Str} {a : Addr} {pos : Pos} (hg : Gl X x) (h : X.mg x = some (.ref a)) (hd : (x == ("__debug__" : Str)) = false := by decide) : PE X (.Name x pos) (tC (.ref a)) := pe_glob hg h rfl hd
/-! #### calls with keywords alone -/
section
variable {CX : CXT} {k : Nat} {f C : Addr} {fd : FuncData} {ps ks : List Str} {sp : Sp} {E : XK} {x m : Str} {p pos apos kpos : Pos} {e o : Expr} {es : List Expr} {kws : List Keyword} {te ta : TE} {t tk : TA} {nm : Option Str}
variable {g : List Value → List Value → List Value} {gV : List V → List V → List V}
def tCallK0 (sp : Sp) (gV : List V → List V → List V) (E : XK) (tk : TA) : TE := fun σ H Q => tk σ H fun zs H2 => sp (gV [] zs) H2 Q E
theorem pe_callK0 (F : FnOk X.prog X.w X.K X.mg X.base CX k f fd ps sp) (hr : Room k X.A) (hg : Gl X x) (hm : X.mg x = some (.ref f)) (hk : PySem.W.keepIn X.K (.ref f) = true) (hb : KBinds X.K fd ps ks g gV) (hx : Passes CX X E)
    (hkw : PK X kws tk) (hall : (backToKw pos (keywordEach kws X.env)).all (·.1.isSome) = true := by rfl) (hks : (backToKw pos (keywordEach kws X.env)).filterMap (·.1) = ks := by rfl)
    (hdb : (x == ("__debug__" : Str)) = false := by decide)
    (hpl : ((backTo pos (starEach [] X.env)).any (·.1) || (backToKw pos (keywordEach kws X.env)).any (·.1.isNone)) = false := by rfl) :
    PE X (.Call (.Name x p) [] kws pos) (tCallK0 sp gV E tk) := by
  refine ⟨fun pins s σ H Q I h => ?_⟩
  refine wpAny_Call_Name_kw (ld_glob I hg hm ?_ hdb)
  refine PySem.W.callWith_KW0 (h₀ := X.base) I.ok.mod.kin hk hall ?_ hpl
  refine thn (hkw.run pos pins s σ H _ I h) fun ws s2 ⟨zs, H2, I2, rz, q2⟩ => ⟨I2.kIn, ?_⟩
  rw [hks]
  exact run_fnk (us := []) (vs := []) F hr hb hx I2 .nil rz q2
end
/-! #### built-ins -/
def rINT : List V → Hp → VK → Prop := fun xs H Q => ((∃ i, xs = [.int i] ∧ Q (.int i) H) ∨ ∃ k, xs = [.bl k] ∧ Q (.int (if k then 1 else 0)) H) ∨ ∃ a n, xs = [.str a] ∧ PySem.intText? a = some n ∧ a.length ≤ 640 ∧ Q (.int n) H
theorem call_INT : CallR X (.type "int") rINT := call_int1.or call_int_str
def rSTR : List V → Hp → VK → Prop := fun xs H Q => ∃ i, xs = [.int i] ∧ i.natAbs.log2 < 1920 ∧ Q (.str (toString i)) H
theorem call_STR : CallR X (.type "str") rSTR := call_str_int
def rTUPLE (K : PySem.W.Frag) : List V → Hp → VK → Prop := fun xs H Q => ∃ p ys, xs = [.ref p] ∧ ((SqL K H p ys ∧ ∀ l, H l = none → Q (.ref l) (upd H l (.tup ys))) ∨ (SqT K H p ys ∧ Q (.ref p) H))
theorem call_TUPLE : CallR X (.type "tuple") (rTUPLE X.K) := call_tuple_of
def rLIST (K : PySem.W.Frag) : List V → Hp → VK → Prop := fun xs H Q => ∃ p ys, xs = [.ref p] ∧ (SqL K H p ys ∨ SqT K H p ys) ∧ ∀ l, H l = none → Q (.ref l) (upd H l (.lst ys))
theorem call_LIST : CallR X (.type "list") (rLIST X.K) := call_list_of
def rLenQ (K : PySem.W.Frag) : List V → Hp → VK → Prop := fun xs H Q => ∃ p ys, xs = [.ref p] ∧ (SqL K H p ys ∨ SqT K H p ys) ∧ Q (.int ys.length) H
def rLenS : List V → Hp → VK → Prop := fun xs H Q => ∃ z, xs = [.str z] ∧ z.length ≤ sizeLine ∧ Q (.int z.length) H
def rLEN (K : PySem.W.Frag) : List V → Hp → VK → Prop := fun xs H Q => rLenS xs H Q ∨ rLenQ K xs H Q
theorem call_LEN : CallR X (.builtin "len") (rLEN X.K) := CallR.or (r := rLenS) (r' := rLenQ X.K) call_len_str call_len_seq
def rABS : List V → Hp → VK → Prop := fun xs H Q => ∃ i, xs = [.int i] ∧ Q (.int (if i < 0 then -i else i)) H
theorem call_ABS : CallR X (.builtin "abs") rABS := call_abs
def rMAX2 : List V → Hp → VK → Prop := fun xs H Q => ∃ i j, xs = [.int i, .int j] ∧ Q (.int (if j > i then j else i)) H
theorem call_MAX2 (hc : X.calm = true) : CallR X (.builtin "max") rMAX2 := call_max2 hc
def rMIN2 : List V → Hp → VK → Prop := fun xs H Q => ∃ i j, xs = [.int i, .int j] ∧ Q (.int (if j < i then j else i)) H
theorem call_MIN2 (hc : X.calm = true) : CallR X (.builtin "min") rMIN2 := call_min2 hc
def rISI (K : PySem.W.Frag) : List V → Hp → VK → Prop := fun xs H Q => rIsi K xs H Q ∨ rIsiT K xs H Q
theorem call_ISI : CallR X (.builtin "isinstance") (rISI X.K) := call_isi.or call_isiT
/-! #### methods -/
def rM_isascii : V → List V → Hp → VK → Prop := fun x xs H Q => ∃ a, x = .str a ∧ xs = [] ∧ True ∧ Q (.bl (Txt.isascii a)) H
def rM_isprintable : V → List V → Hp → VK → Prop := fun x xs H Q => ∃ a, x = .str a ∧ xs = [] ∧ True ∧ Q (.bl (Txt.isprintable a)) H
def rM_isdigit : V → List V → Hp → VK → Prop := fun x xs H Q => ∃ a, x = .str a ∧ xs = [] ∧ True ∧ Q (.bl (Txt.isdigit a)) H
def rM_find : V → List V → Hp → VK → Prop := fun x xs H Q => ∃ a b, x = .str a ∧ xs = [.str b] ∧ Q (.int (Txt.find a b)) H
def rM_zfill : V → List V → Hp → VK → Prop := fun x xs H Q => ∃ (a : Str) (i : Int), x = .str a ∧ xs = [.int i] ∧ PadOk i = true ∧ Q (.str (Txt.zfill a i)) H
def rM_rjust : V → List V → Hp → VK → Prop := fun x xs H Q => ∃ (a : Str) (i : Int), x = .str a ∧ xs = [.int i] ∧ PadOk i = true ∧ Q (.str (Txt.rjust a i)) H
def rJoin (K : PySem.W.Frag) : V → List V → Hp → VK → Prop := fun x xs H Q => ∃ a p, ∃ ys : List Str, x = .str a ∧ xs = [.ref p] ∧ (SqL K H p (ys.map V.str) ∨ SqT K H p (ys.map V.str)) ∧
      (ys.map (·.length)).sum + ys.length * a.length ≤ 16777216 ∧ Q (.str (Txt.join a ys)) H
def rPOP : V → List V → Hp → VK → Prop := rPopAt
theorem mt_POP : MtR X "list.pop" rPOP := mt_popAt
theorem mt_FIND : MtR X "str.find" rM_find := mt_find
theorem mt_ZFILL : MtR X "str.zfill" rM_zfill := mt_zfill
theorem mt_RJUST : MtR X "str.rjust" rM_rjust := mt_rjust
/-- {x:0wd}: a number not below 0, with noughts ahead up to w signs -/
def zpad (w : Nat) (i : Int) : Str := ⟨(List.replicate (w - (Nat.toDigits 10 i.toNat).length) 48 ++ (Nat.toDigits 10 i.toNat).map Char.toNat).toArray⟩
end
end My

set_option Elab.async false
set_option linter.all false
set_option maxRecDepth 100000
set_option maxHeartbeats 400000
namespace My
open PySem PySem.Spec PyProof.Rows L2
section
variable {X : Cx}
theorem zpad_of {w : Nat} {a : Int} {D : List Nat} (h0 : 0 ≤ a) (hD : D = (Nat.toDigits 10 a.natAbs).map Char.toNat) (p1 : Nat) (p2 : Nat) (h1 : p1 = w - D.length) (h2 : p2 = 0) :
    (⟨(List.replicate 0 48 ++ [] ++ [] ++ List.replicate p2 48 ++ (List.replicate p1 48 ++ D) ++ [] ++ List.replicate 0 48).toArray⟩ : Str) = zpad w a := by
  subst hD h1 h2
  unfold zpad
  have e : a.natAbs = a.toNat := by omega
  rw [e, List.length_map]
  simp
theorem zpad_len {w : Nat} {a : Int} (h0 : 0 ≤ a) (hl : a.natAbs.log2 < 1920) (hw : w ≤ 100) : (zpad w a).length ≤ sizeLine := by
  have h1 : (Nat.toDigits 10 a.toNat).length ≤ 1921 := by
    have h2 : a.toNat < 10 ^ 1921 := by
      have h3 : a.toNat < 2 ^ 1920 := by
        have h4 : a.toNat = a.natAbs := by omega
        rw [h4]
        by_cases hz : a.natAbs = 0
        · rw [hz]; exact Nat.two_pow_pos _
        · exact (Nat.log2_lt hz).mp hl
      exact Nat.lt_of_lt_of_le h3 (Nat.le_trans (Nat.pow_le_pow_left (show 2 ≤ 10 by decide) 1920) (Nat.pow_le_pow_right (by decide) (by decide)))
    have h5 := (Nat.length_repr_le_iff (n := a.toNat) (k := 1921) (by decide)).mpr h2
    rwa [← String.length_toList, Nat.toList_repr] at h5
  show (List.toArray _).size ≤ sizeLine
  rw [List.size_toArray, List.length_append, List.length_replicate, List.length_map]
  exact Nat.le_trans (show _ ≤ 2100 by omega) (by decide)
theorem ret_text2 {M : Model} {A : Around} {E : Value → Shared → Prop} {s : Shared} {X T : PySem.Str} {Q : PySem.Fin → Shared → Prop} (e : X = T) (hL : T.length ≤ sizeLine) (h : ∀ t k, Q (.done (.ret (.str T t))) { s with toks := k }) : wpAny M A (retStr X) Q E s := by
  subst e
  exact PySem.W.KXf.ret_text rfl hL h
theorem fmt0_meets_3 {a : Int} {t : Tok} (h0 : 0 ≤ a) (hl : a.natAbs.log2 < 1920) :
  ∀ u, Meets (Builtin.«int.__format__» ⟨[.int a t, .str (Str.ofString "03d") u], []⟩) (fun _ R s => ∀ t' k, R (.ok (.ret (.str (zpad 3 a) t'))) { s with toks := k }) := by
  have hn : decide (a < 0) = false := decide_eq_false (by omega)
  intro u
  apply PySem.W.KPc.meets_of
  intro prog w A s Q E h
  unfold Builtin.«int.__format__»
  refine wpAny_bind (wpAny_of_eq (a := (_, _)) rfl ?_)
  refine wpAny_bind (wpAny_of_eq (a := _) rfl ?_)
  kxf_if
  refine wpAny_bind (wpAny_typeNameOf (T := "str") (typeIs_str _ _ _) (by decide) fun _ => ?_)
  refine wpAny_bind (wpAny_of_eq (a := some _) rfl ?_)
  kxf_if
  kxf_if
  refine wpAny_bind (wpAny_typeNameOfCut_int ?_)
  (repeat kxf_if)
  refine wpAny_bind (wpAny_of_eq (PySem.overDigitLimit_small hl) ?_)
  (repeat kxf_if)
  refine ret_text2 (T := zpad 3 a) ?_ (zpad_len h0 hl (by decide)) (fun t' k => h t' k)
  rw [hn]
  generalize hD : (List.map _ (Nat.toDigits _ a.natAbs)) = D
  have hD' : D = (Nat.toDigits 10 a.natAbs).map Char.toNat := hD.symm
  clear hD
  cases D with
  | nil => exact absurd (congrArg List.length hD') (by rw [List.length_map]; have := Nat.length_toDigits_pos (b := 10) (n := a.natAbs); simp; omega)
  | cons d ds =>
    refine zpad_of h0 hD' _ _ ?_ ?_
    · rfl
    · show ((3 : Int) - 0 - (((List.replicate (3 - (d :: ds).length) 48 ++ (d :: ds)).length : Nat) : Int)).toNat = 0
      rw [List.length_append, List.length_replicate]
      omega
theorem fmt0_meets_4 {a : Int} {t : Tok} (h0 : 0 ≤ a) (hl : a.natAbs.log2 < 1920) :
  ∀ u, Meets (Builtin.«int.__format__» ⟨[.int a t, .str (Str.ofString "04d") u], []⟩) (fun _ R s => ∀ t' k, R (.ok (.ret (.str (zpad 4 a) t'))) { s with toks := k }) := by
  have hn : decide (a < 0) = false := decide_eq_false (by omega)
  intro u
  apply PySem.W.KPc.meets_of
  intro prog w A s Q E h
  unfold Builtin.«int.__format__»
  refine wpAny_bind (wpAny_of_eq (a := (_, _)) rfl ?_)
  refine wpAny_bind (wpAny_of_eq (a := _) rfl ?_)
  kxf_if
  refine wpAny_bind (wpAny_typeNameOf (T := "str") (typeIs_str _ _ _) (by decide) fun _ => ?_)
  refine wpAny_bind (wpAny_of_eq (a := some _) rfl ?_)
  kxf_if
  kxf_if
  refine wpAny_bind (wpAny_typeNameOfCut_int ?_)
  (repeat kxf_if)
  refine wpAny_bind (wpAny_of_eq (PySem.overDigitLimit_small hl) ?_)
  (repeat kxf_if)
  refine ret_text2 (T := zpad 4 a) ?_ (zpad_len h0 hl (by decide)) (fun t' k => h t' k)
  rw [hn]
  generalize hD : (List.map _ (Nat.toDigits _ a.natAbs)) = D
  have hD' : D = (Nat.toDigits 10 a.natAbs).map Char.toNat := hD.symm
  clear hD
  cases D with
  | nil => exact absurd (congrArg List.length hD') (by rw [List.length_map]; have := Nat.length_toDigits_pos (b := 10) (n := a.natAbs); simp; omega)
  | cons d ds =>
    refine zpad_of h0 hD' _ _ ?_ ?_
    · rfl
    · show ((4 : Int) - 0 - (((List.replicate (4 - (d :: ds).length) 48 ++ (d :: ds)).length : Nat) : Int)).toNat = 0
      rw [List.length_append, List.length_replicate]
      omega
theorem fmt0_meets_6 {a : Int} {t : Tok} (h0 : 0 ≤ a) (hl : a.natAbs.log2 < 1920) :
  ∀ u, Meets (Builtin.«int.__format__» ⟨[.int a t, .str (Str.ofString "06d") u], []⟩) (fun _ R s => ∀ t' k, R (.ok (.ret (.str (zpad 6 a) t'))) { s with toks := k }) := by
  have hn : decide (a < 0) = false := decide_eq_false (by omega)
  intro u
  apply PySem.W.KPc.meets_of
  intro prog w A s Q E h
  unfold Builtin.«int.__format__»
  refine wpAny_bind (wpAny_of_eq (a := (_, _)) rfl ?_)
  refine wpAny_bind (wpAny_of_eq (a := _) rfl ?_)
  kxf_if
  refine wpAny_bind (wpAny_typeNameOf (T := "str") (typeIs_str _ _ _) (by decide) fun _ => ?_)
  refine wpAny_bind (wpAny_of_eq (a := some _) rfl ?_)
  kxf_if
  kxf_if
  refine wpAny_bind (wpAny_typeNameOfCut_int ?_)
  (repeat kxf_if)
  refine wpAny_bind (wpAny_of_eq (PySem.overDigitLimit_small hl) ?_)
  (repeat kxf_if)
  refine ret_text2 (T := zpad 6 a) ?_ (zpad_len h0 hl (by decide)) (fun t' k => h t' k)
  rw [hn]
  generalize hD : (List.map _ (Nat.toDigits _ a.natAbs)) = D
  have hD' : D = (Nat.toDigits 10 a.natAbs).map Char.toNat := hD.symm
  clear hD
  cases D with
  | nil => exact absurd (congrArg List.length hD') (by rw [List.length_map]; have := Nat.length_toDigits_pos (b := 10) (n := a.natAbs); simp; omega)
  | cons d ds =>
    refine zpad_of h0 hD' _ _ ?_ ?_
    · rfl
    · show ((6 : Int) - 0 - (((List.replicate (6 - (d :: ds).length) 48 ++ (d :: ds)).length : Nat) : Int)).toNat = 0
      rw [List.length_append, List.length_replicate]
      omega
theorem fmt0_meets_8 {a : Int} {t : Tok} (h0 : 0 ≤ a) (hl : a.natAbs.log2 < 1920) :
  ∀ u, Meets (Builtin.«int.__format__» ⟨[.int a t, .str (Str.ofString "08d") u], []⟩) (fun _ R s => ∀ t' k, R (.ok (.ret (.str (zpad 8 a) t'))) { s with toks := k }) := by
  have hn : decide (a < 0) = false := decide_eq_false (by omega)
  intro u
  apply PySem.W.KPc.meets_of
  intro prog w A s Q E h
  unfold Builtin.«int.__format__»
  refine wpAny_bind (wpAny_of_eq (a := (_, _)) rfl ?_)
  refine wpAny_bind (wpAny_of_eq (a := _) rfl ?_)
  kxf_if
  refine wpAny_bind (wpAny_typeNameOf (T := "str") (typeIs_str _ _ _) (by decide) fun _ => ?_)
  refine wpAny_bind (wpAny_of_eq (a := some _) rfl ?_)
  kxf_if
  kxf_if
  refine wpAny_bind (wpAny_typeNameOfCut_int ?_)
  (repeat kxf_if)
  refine wpAny_bind (wpAny_of_eq (PySem.overDigitLimit_small hl) ?_)
  (repeat kxf_if)
  refine ret_text2 (T := zpad 8 a) ?_ (zpad_len h0 hl (by decide)) (fun t' k => h t' k)
  rw [hn]
  generalize hD : (List.map _ (Nat.toDigits _ a.natAbs)) = D
  have hD' : D = (Nat.toDigits 10 a.natAbs).map Char.toNat := hD.symm
  clear hD
  cases D with
  | nil => exact absurd (congrArg List.length hD') (by rw [List.length_map]; have := Nat.length_toDigits_pos (b := 10) (n := a.natAbs); simp; omega)
  | cons d ds =>
    refine zpad_of h0 hD' _ _ ?_ ?_
    · rfl
    · show ((8 : Int) - 0 - (((List.replicate (8 - (d :: ds).length) 48 ++ (d :: ds)).length : Nat) : Int)).toNat = 0
      rw [List.length_append, List.length_replicate]
      omega
/-- 0wd: the specs that are served -/
def FmtW (spec : Str) (w : Nat) : Prop := (spec = Str.ofString "06d" ∧ w = 6) ∨ (spec = Str.ofString "04d" ∧ w = 4) ∨ (spec = Str.ofString "03d" ∧ w = 3) ∨ (spec = Str.ofString "08d" ∧ w = 8)
def tFmt0 (w : Nat) (te : TE) : TE := fun σ H Q => te σ H fun x H1 => ∃ i : Int, x = .int i ∧ 0 ≤ i ∧ i.natAbs.log2 < 1920 ∧ Q (.str (zpad w i)) H1
theorem pe_fmt0 (w : Nat) {spec : Str} {e : Expr} {te : TE} {j : Nat} {p1 p2 pos : Pos} (he : PE X e te) (hs : FmtW spec w := by first | exact .inl ⟨rfl, rfl⟩ | exact .inr (.inl ⟨rfl, rfl⟩) | exact .inr (.inr (.inl ⟨rfl, rfl⟩)) | exact .inr (.inr (.inr ⟨rfl, rfl⟩))) :
    PE X (.FormattedValue e (-1) (some (.JoinedStr [.Constant (.str spec) j p1] p2)) pos) (tFmt0 w te) := by
  refine ⟨fun pins s σ H Q I h => ?_⟩
  refine wpAny_FormattedValue_spec (thn (he.run pins s σ H _ I h) fun v s1 hv => ?_)
  obtain ⟨x, H1, I1, r1, i, rfl, h0, hl, q⟩ := hv
  obtain ⟨t, rfl⟩ := r1
  refine wpAny_JoinedStr_one (Calls.Constant_str ⟨spec, _, rfl, ?_⟩)
  rcases hs with ⟨rfl, rfl⟩ | ⟨rfl, rfl⟩ | ⟨rfl, rfl⟩ | ⟨rfl, rfl⟩
  · exact PySem.W.KXf.field_int rfl (by decide) (by decide) (fmt0_meets_6 h0 hl) fun t' k => ⟨.str (zpad 6 i), H1, I1.tok _, ⟨t', rfl⟩, q⟩
  · exact PySem.W.KXf.field_int rfl (by decide) (by decide) (fmt0_meets_4 h0 hl) fun t' k => ⟨.str (zpad 4 i), H1, I1.tok _, ⟨t', rfl⟩, q⟩
  · exact PySem.W.KXf.field_int rfl (by decide) (by decide) (fmt0_meets_3 h0 hl) fun t' k => ⟨.str (zpad 3 i), H1, I1.tok _, ⟨t', rfl⟩, q⟩
  · exact PySem.W.KXf.field_int rfl (by decide) (by decide) (fmt0_meets_8 h0 hl) fun t' k => ⟨.str (zpad 8 i), H1, I1.tok _, ⟨t', rfl⟩, q⟩
end
end My

set_option Elab.async false
set_option linter.all false
set_option maxRecDepth 100000
set_option maxHeartbeats 400000
/-! ### readings, step by step -/
namespace My
open PySem PySem.Spec PyProof.Rows L2
abbrev St := L2.St
section
variable {K : PySem.W.Frag} {σ : St} {H : Hp} {Q : VK} {ta tb tc te : TE} {t u c : TT} {tr tr' : TA} {r r' : R2} {v x y z : V}
theorem x_var {i : Nat} (h : σ[i]? = some (some v)) (q : Q v H) : tVar i σ H Q := ⟨v, h, q⟩
theorem x_c (q : Q v H) : tC v σ H Q := q
theorem x_op (h : ta σ H fun x H1 => tb σ H1 fun y H2 => r x y H2 Q) : tOp r ta tb σ H Q := h
theorem x_un {r : V → Hp → VK → Prop} (h : ta σ H fun x H1 => r x H1 Q) : tUn r ta σ H Q := h
theorem x_tst {Q : Bool → Hp → Prop} (h : te σ H fun x H' => ∃ k, x = .bl k ∧ Q k H') : tTest te σ H Q := h
theorem x_bl {Q : Bool → Hp → Prop} {b : Bool} (h : Q b H) : ∃ k, V.bl b = .bl k ∧ Q k H := ⟨b, rfl, h⟩
theorem x_tru {Q : Bool → Hp → Prop} (h : ta σ H fun x H' => ∃ k, TruV K x H' k ∧ Q k H') : tTru1 K ta σ H Q := h
theorem x_truB {P : Bool → Prop} {b : Bool} (h : P b) : ∃ k, TruV K (.bl b) H k ∧ P k := ⟨b, rfl, h⟩
theorem x_truL {P : Bool → Prop} {p : Addr} {xs : List V} (hs : SqL K H p xs) (h : P (!xs.isEmpty)) : ∃ k, TruV K (.ref p) H k ∧ P k := ⟨_, .inl ⟨xs, hs, rfl⟩, h⟩
theorem x_truT {P : Bool → Prop} {p : Addr} {xs : List V} (hs : SqT K H p xs) (h : P (!xs.isEmpty)) : ∃ k, TruV K (.ref p) H k ∧ P k := ⟨_, .inr (.inl ⟨xs, hs, rfl⟩), h⟩
theorem x_truS {P : Bool → Prop} {s : Str} (hs : s.length ≤ sizeLine) (h : P ((s.length : Int) != 0)) : ∃ k, TruV K (.str s) H k ∧ P k := ⟨_, ⟨hs, rfl⟩, h⟩
theorem x_not {Q : Bool → Hp → Prop} (h : t σ H fun c H1 => Q (!c) H1) : tNot t σ H Q := h
theorem x_and {Q : Bool → Hp → Prop} (h : t σ H fun c H1 => if c = true then u σ H1 Q else Q false H1) : tAnd t u σ H Q := h
theorem x_or {Q : Bool → Hp → Prop} (h : t σ H fun c H1 => if c = true then Q true H1 else u σ H1 Q) : tOr t u σ H Q := h
theorem x_andV (h : ta σ H fun x H1 => ∃ c, x = .bl c ∧ if c = true then tb σ H1 Q else Q (.bl false) H1) : tAndV ta tb σ H Q := h
theorem x_orV (h : ta σ H fun x H1 => ∃ c, x = .bl c ∧ if c = true then Q (.bl true) H1 else tb σ H1 Q) : tOrV ta tb σ H Q := h
theorem x_notV (h : ta σ H fun x H1 => ∃ c, x = .bl c ∧ Q (.bl (!c)) H1) : tNotV ta σ H Q := h
theorem x_bl2 {b : Bool} {P : Bool → Prop} (h : P b) : ∃ k, V.bl b = .bl k ∧ P k := ⟨b, rfl, h⟩
theorem x_yes {Q : Bool → Hp → Prop} (h : Q true H) : tYes σ H Q := h
theorem x_if (h : c σ H fun b H1 => if b = true then ta σ H1 Q else tb σ H1 Q) : tIf c ta tb σ H Q := h
theorem x_nil {Q : List V → Hp → Prop} (q : Q [] H) : tNil σ H Q := q
theorem x_cons {Q : List V → Hp → Prop} (h : ta σ H fun x H1 => tr σ H1 fun xs H2 => Q (x :: xs) H2) : tCons ta tr σ H Q := h
theorem x_tup (h : tr σ H fun xs H1 => xs.length ≤ sizeLine ∧ ∀ p, H1 p = none → Q (.ref p) (upd H1 p (.tup xs))) : tTup tr σ H Q := h
theorem x_lst (h : tr σ H fun xs H1 => xs.length ≤ sizeLine ∧ ∀ p, H1 p = none → Q (.ref p) (upd H1 p (.lst xs))) : tLst tr σ H Q := h
theorem x_call {sp : Sp} {E : XK} (h : tr σ H fun vs H1 => sp vs H1 Q E) : tCall sp [] E tr σ H Q := by
  have e : (fun (vs : List V) (H1 : Hp) => sp (vs ++ []) H1 Q E) = fun vs H1 => sp vs H1 Q E := by funext vs H1; rw [List.append_nil]
  show tr σ H fun vs H1 => sp (vs ++ []) H1 Q E
  rw [e]
  exact h
theorem x_callK {sp : Sp} {gV : List V → List V → List V} {E : XK} (h : tr σ H fun vs H1 => tr' σ H1 fun zs H2 => sp (gV vs zs) H2 Q E) : tCallK sp gV E tr tr' σ H Q := h
theorem x_callK0 {sp : Sp} {gV : List V → List V → List V} {E : XK} (h : tr σ H fun zs H2 => sp (gV [] zs) H2 Q E) : tCallK0 sp gV E tr σ H Q := h
theorem x_cb {r : List V → Hp → VK → Prop} (h : tr σ H fun vs H1 => r vs H1 Q) : tCB r tr σ H Q := h
theorem x_bm {T : String} {r : V → List V → Hp → VK → Prop} (h : ta σ H fun x H1 => tyV K T x H1 ∧ tr σ H1 fun xs H2 => r x xs H2 Q) : tBM K T r ta tr σ H Q := h
theorem x_bm0 {T : String} {r : V → List V → Hp → VK → Prop} (h : ta σ H fun x H1 => tyV K T x H1 ∧ r x [] H1 Q) : tBM0 K T r ta σ H Q := h
theorem x_tyS {s : Str} {P : Prop} (h : P) : tyV K "str" (.str s) H ∧ P := ⟨rfl, h⟩
theorem x_tyL {p : Addr} {xs : List V} {P : Prop} (hs : SqL K H p xs) (h : P) : tyV K "list" (.ref p) H ∧ P := ⟨.inl ⟨rfl, xs, hs⟩, h⟩
theorem x_sl {r : V → Option Int → Option Int → Hp → VK → Prop} {tl th : TO} (h : te σ H fun x H1 => tl σ H1 fun l H2 => th σ H2 fun u H3 => r x l u H3 Q) : tSl r te tl th σ H Q := h
theorem x_nopart {Q : Option Int → Hp → Prop} (h : Q none H) : tNoPart σ H Q := h
theorem x_part {Q : Option Int → Hp → Prop} (h : te σ H fun x H1 => ∃ i, x = .int i ∧ Q (some i) H1) : tPart te σ H Q := h
theorem x_int {i : Int} {P : Int → Prop} (h : P i) : ∃ k, V.int i = .int k ∧ P k := ⟨i, rfl, h⟩
theorem x_str {s : Str} {P : Str → Prop} (h : P s) : ∃ k, V.str s = .str k ∧ P k := ⟨s, rfl, h⟩
theorem x_fmt (h : te σ H fun x H1 => (∃ y : Str, x = .str y ∧ y.length ≤ sizeLine ∧ Q (.str y) H1) ∨ ∃ i : Int, x = .int i ∧ i.natAbs.log2 < 1920 ∧ Q (.str (toString i)) H1) : tFmt te σ H Q := h
theorem x_fmtS {s : Str} {P : Int → Prop} (hs : s.length ≤ sizeLine) (h : Q (.str s) H) : (∃ y : Str, V.str s = .str y ∧ y.length ≤ sizeLine ∧ Q (.str y) H) ∨ ∃ i : Int, V.str s = .int i ∧ i.natAbs.log2 < 1920 ∧ Q (.str (toString i)) H := .inl ⟨s, rfl, hs, h⟩
theorem x_fmt0 {w : Nat} (h : te σ H fun x H1 => ∃ i : Int, x = .int i ∧ 0 ≤ i ∧ i.natAbs.log2 < 1920 ∧ Q (.str (zpad w i)) H1) : tFmt0 w te σ H Q := h
theorem x_fmtI {w : Nat} {i : Int} (h0 : 0 ≤ i) (hl : i.natAbs.log2 < 1920) (h : Q (.str (zpad w i)) H) : ∃ k : Int, V.int i = .int k ∧ 0 ≤ k ∧ k.natAbs.log2 < 1920 ∧ Q (.str (zpad w k)) H := ⟨i, rfl, h0, hl, h⟩
theorem x_js0 {acc : Str} {Q : Str → Hp → Prop} (h : Q acc H) : tJs [] acc σ H Q := h
theorem x_js {acc : Str} {Q : Str → Hp → Prop} {ts : List TE} (h : te σ H fun x H1 => ∃ y : Str, x = .str y ∧ (acc ++ y).length ≤ sizeLine ∧ tJs ts (acc ++ y) σ H1 Q) : tJs (te :: ts) acc σ H Q := h
theorem x_jsS {s acc : Str} {Q : Str → Hp → Prop} {ts : List TE} (hs : (acc ++ s).length ≤ sizeLine) (h : tJs ts (acc ++ s) σ H Q) : ∃ y : Str, V.str s = .str y ∧ (acc ++ y).length ≤ sizeLine ∧ tJs ts (acc ++ y) σ H Q := ⟨s, rfl, hs, h⟩
theorem x_chain (h : ta σ H fun x H1 => tb σ H1 fun y H2 => r x y H2 fun z H3 => ∃ k, z = .bl k ∧ (if k = true then tc σ H3 fun w' H4 => r' y w' H4 Q else Q (.bl false) H3)) : tChain r r' ta tb tc σ H Q := h
/-! leaves -/
theorem a_ii {i j : Int} (h : Q (.int (i + j)) H) : rADD K (.int i) (.int j) H Q := .inl ⟨i, j, rfl, rfl, h⟩
theorem a_ss {i j : Str} (hl : i.length + j.length ≤ sizeLine) (h : Q (.str (i ++ j)) H) : rADD K (.str i) (.str j) H Q := .inr (.inl ⟨i, j, rfl, rfl, hl, h⟩)
theorem a_ll {p q : Addr} {xs ys : List V} (hp : H p = some (.lst xs)) (hq : H q = some (.lst ys)) (hl : xs.length + ys.length ≤ sizeLine) (h : ∀ l, H l = none → Q (.ref l) (upd H l (.lst (xs ++ ys)))) : rADD K (.ref p) (.ref q) H Q :=
  .inr (.inr (.inl ⟨p, q, xs, ys, rfl, rfl, hp, hq, hl, h⟩))
theorem a_tt {p q : Addr} {xs ys : List V} (hp : SqT K H p xs) (hq : SqT K H q ys) (hl : xs.length + ys.length ≤ sizeLine) (h : (xs = [] → Q (.ref q) H) ∧ (xs ≠ [] → ys = [] → Q (.ref p) H) ∧ (xs ≠ [] → ys ≠ [] → ∀ l, H l = none → Q (.ref l) (upd H l (.tup (xs ++ ys))))) : rADD K (.ref p) (.ref q) H Q :=
  .inr (.inr (.inr ⟨p, q, xs, ys, rfl, rfl, hp, hq, hl, h⟩))
theorem s_ii {i j : Int} (h : Q (.int (i - j)) H) : rSUB (.int i) (.int j) H Q := ⟨i, j, rfl, rfl, h⟩
theorem m_ii {i j : Int} (hc : CMulA i j) (h : Q (.int (i * j)) H) : rMUL K (.int i) (.int j) H Q := .inl ⟨i, j, rfl, rfl, hc, h⟩
theorem m_si {s : Str} {k : Int} (h1 : -(2 ^ 63) ≤ k) (h2 : k < 2 ^ 63) (hl : s.length * k.toNat ≤ sizeLine) (h : Q (.str (repS s k)) H) : rMUL K (.str s) (.int k) H Q := .inr (.inl ⟨s, k, rfl, rfl, h1, h2, hl, h⟩)
theorem m_li {p : Addr} {xs : List V} {k : Int} (hp : H p = some (.lst xs)) (h1 : -(2 ^ 63) ≤ k) (h2 : k < 2 ^ 63) (hl : xs.length * k.toNat ≤ sizeLine) (h : ∀ l, H l = none → Q (.ref l) (upd H l (.lst (List.replicate k.toNat xs).flatten))) : rMUL K (.ref p) (.int k) H Q :=
  .inr (.inr ⟨p, k, xs, rfl, rfl, hp, h1, h2, hl, h⟩)
theorem md_ii {i j : Int} (hc : 0 < j) (h : Q (.int (i % j)) H) : rMOD (.int i) (.int j) H Q := ⟨i, j, rfl, rfl, hc, h⟩
theorem fd_ii {i j : Int} (hc : CDivW i j) (h : Q (.int (i / j)) H) : rFDIV (.int i) (.int j) H Q := ⟨i, j, rfl, rfl, hc, h⟩
theorem pw_ii {i j : Int} (hc : CPow i j) (h : Q (.int (i ^ j.toNat)) H) : rPOW (.int i) (.int j) H Q := ⟨i, j, rfl, rfl, hc, h⟩
theorem n_i {i : Int} (h : Q (.int (-i)) H) : rNEG (.int i) H Q := ⟨i, rfl, h⟩
theorem e_ii {i j : Int} (h : Q (.bl (decide (i = j))) H) : rEQ K (.int i) (.int j) H Q := .inl ⟨rfl, by rw [show decide (V.int i = V.int j) = decide (i = j) by simp]; exact h⟩
theorem e_ss {i j : Str} (h : Q (.bl (decide (i = j))) H) : rEQ K (.str i) (.str j) H Q := .inl ⟨rfl, by rw [show decide (V.str i = V.str j) = decide (i = j) by simp]; exact h⟩
theorem e_bb {i j : Bool} (h : Q (.bl (decide (i = j))) H) : rEQ K (.bl i) (.bl j) H Q := .inl ⟨rfl, by rw [show decide (V.bl i = V.bl j) = decide (i = j) by simp]; exact h⟩
theorem e_d {d e : PyData} (hd : Dp K H x d) (he : Dp K H y e) (h1 : SeqAt.shaped d = true) (h2 : SeqAt.shaped e = true) (h : Q (.bl (PyData.eqv d e)) H) : rEQ K x y H Q := .inr ⟨d, e, hd, he, h1, h2, h⟩
theorem ne_ii {i j : Int} (h : Q (.bl (!decide (i = j))) H) : rNE K (.int i) (.int j) H Q := .inl ⟨rfl, by rw [show decide (V.int i = V.int j) = decide (i = j) by simp]; exact h⟩
theorem ne_ss {i j : Str} (h : Q (.bl (!decide (i = j))) H) : rNE K (.str i) (.str j) H Q := .inl ⟨rfl, by rw [show decide (V.str i = V.str j) = decide (i = j) by simp]; exact h⟩
theorem ne_bb {i j : Bool} (h : Q (.bl (!decide (i = j))) H) : rNE K (.bl i) (.bl j) H Q := .inl ⟨rfl, by rw [show decide (V.bl i = V.bl j) = decide (i = j) by simp]; exact h⟩
theorem ne_d {d e : PyData} (hd : Dp K H x d) (he : Dp K H y e) (h1 : SeqAt.shaped d = true) (h2 : SeqAt.shaped e = true) (h : Q (.bl (!PyData.eqv d e)) H) : rNE K x y H Q := .inr ⟨d, e, hd, he, h1, h2, h⟩
theorem lt_ii {i j : Int} (h : Q (.bl (decide (i < j))) H) : rLT (.int i) (.int j) H Q := .inl ⟨i, j, rfl, rfl, h⟩
theorem lt_ss {i j : Str} (h : Q (.bl (decide (i.cps.toList < j.cps.toList))) H) : rLT (.str i) (.str j) H Q := .inr ⟨i, j, rfl, rfl, h⟩
theorem le_ii {i j : Int} (h : Q (.bl (decide (i ≤ j))) H) : rLE (.int i) (.int j) H Q := .inl ⟨i, j, rfl, rfl, h⟩
theorem gt_ii {i j : Int} (h : Q (.bl (decide (j < i))) H) : rGT (.int i) (.int j) H Q := .inl ⟨i, j, rfl, rfl, h⟩
theorem gt_ss {i j : Str} (h : Q (.bl (decide (j.cps.toList < i.cps.toList))) H) : rGT (.str i) (.str j) H Q := .inr ⟨i, j, rfl, rfl, h⟩
theorem ge_ii {i j : Int} (h : Q (.bl (decide (j ≤ i))) H) : rGE (.int i) (.int j) H Q := .inl ⟨i, j, rfl, rfl, h⟩
theorem is_N (h : Q (.bl (decide (x = .non))) H) : rIS K x .non H Q := .inl ⟨rfl, h⟩
theorem is_T {m n : String} (h : Q (.bl (decide (m = n))) H) : rIS K (.ty m) (.ty n) H Q := .inr (.inl ⟨m, n, rfl, rfl, h⟩)
theorem is_B {b : Bool} (h : Q (.bl (decide (x = .bl b))) H) : rIS K x (.bl b) H Q := .inr (.inr ⟨b, rfl, h⟩)
theorem isn_N (h : Q (.bl (!decide (x = .non))) H) : rISN K x .non H Q := .inl ⟨rfl, h⟩
theorem isn_T {m n : String} (h : Q (.bl (!decide (m = n))) H) : rISN K (.ty m) (.ty n) H Q := .inr (.inl ⟨m, n, rfl, rfl, h⟩)
theorem isn_B {b : Bool} (h : Q (.bl (!decide (x = .bl b))) H) : rISN K x (.bl b) H Q := .inr (.inr ⟨b, rfl, h⟩)
theorem in_s {c : Nat} {z : Str} (h : Q (.bl (decide (c ∈ z.cps.toList))) H) : rINU K (.str ⟨#[c]⟩) (.str z) H Q := .inl ⟨c, z, rfl, rfl, h⟩
theorem nin_s {c : Nat} {z : Str} (h : Q (.bl (!decide (c ∈ z.cps.toList))) H) : rNINU K (.str ⟨#[c]⟩) (.str z) H Q := .inl ⟨c, z, rfl, rfl, h⟩
theorem ix_L {p : Addr} {xs : List V} {i : Int} (hs : SqL K H p xs) (ha : atI xs i = some v) (h : Q v H) : rIX K (.ref p) (.int i) H Q := .inl ⟨p, xs, i, v, rfl, rfl, hs, ha, h⟩
theorem ix_T {p : Addr} {xs : List V} {i : Int} (hs : SqT K H p xs) (ha : atI xs i = some v) (h : Q v H) : rIX K (.ref p) (.int i) H Q := .inr (.inl ⟨p, xs, i, v, rfl, rfl, hs, ha, h⟩)
theorem ix_S {z : Str} {i : Int} {c : Nat} (hl : z.length ≤ sizeLine) (ha : atI z.cps.toList i = some c) (h : Q (.str ⟨#[c]⟩) H) : rIX K (.str z) (.int i) H Q := .inr (.inr ⟨z, i, c, rfl, rfl, hl, ha, h⟩)
theorem sl_S {z : Str} {lo hi : Option Int} (hl : z.length ≤ sizeLine) (h : Q (.str (cutS z lo hi)) H) : rSL K (.str z) lo hi H Q := .inl ⟨z, rfl, hl, h⟩
theorem sl_L {p : Addr} {xs : List V} {lo hi : Option Int} (hs : SqL K H p xs) (h : ∀ l, H l = none → Q (.ref l) (upd H l (.lst (cutV xs lo hi)))) : rSL K (.ref p) lo hi H Q := .inr (.inl ⟨p, xs, rfl, hs, h⟩)
theorem i_i {i : Int} (h : Q (.int i) H) : rINT [.int i] H Q := .inl (.inl ⟨i, rfl, h⟩)
theorem i_b {b : Bool} (h : Q (.int (if b then 1 else 0)) H) : rINT [.bl b] H Q := .inl (.inr ⟨b, rfl, h⟩)
theorem i_s {a : Str} {n : Int} (ha : PySem.intText? a = some n) (hl : a.length ≤ 640) (h : Q (.int n) H) : rINT [.str a] H Q := .inr ⟨a, n, rfl, ha, hl, h⟩
theorem st_i {i : Int} (hl : i.natAbs.log2 < 1920) (h : Q (.str (toString i)) H) : rSTR [.int i] H Q := ⟨i, rfl, hl, h⟩
theorem ln_s {z : Str} (hl : z.length ≤ sizeLine) (h : Q (.int z.length) H) : rLEN K [.str z] H Q := .inl ⟨z, rfl, hl, h⟩
theorem ln_l {p : Addr} {xs : List V} (hs : SqL K H p xs) (h : Q (.int xs.length) H) : rLEN K [.ref p] H Q := .inr ⟨p, xs, rfl, .inl hs, h⟩
theorem ln_t {p : Addr} {xs : List V} (hs : SqT K H p xs) (h : Q (.int xs.length) H) : rLEN K [.ref p] H Q := .inr ⟨p, xs, rfl, .inr hs, h⟩
theorem ab_i {i : Int} (h : Q (.int (if i < 0 then -i else i)) H) : rABS [.int i] H Q := ⟨i, rfl, h⟩
theorem mx_ii {i j : Int} (h : Q (.int (if j > i then j else i)) H) : rMAX2 [.int i, .int j] H Q := ⟨i, j, rfl, h⟩
theorem mn_ii {i j : Int} (h : Q (.int (if j < i then j else i)) H) : rMIN2 [.int i, .int j] H Q := ⟨i, j, rfl, h⟩
theorem ty_N (h : Q (.ty "NoneType") H) : rTyp K [.non] H Q := ⟨_, _, rfl, .non, h⟩
theorem ty_B {b : Bool} (h : Q (.ty "bool") H) : rTyp K [.bl b] H Q := ⟨_, _, rfl, .bl b, h⟩
theorem ty_I {i : Int} (h : Q (.ty "int") H) : rTyp K [.int i] H Q := ⟨_, _, rfl, .int i, h⟩
theorem ty_S {s : Str} (h : Q (.ty "str") H) : rTyp K [.str s] H Q := ⟨_, _, rfl, .str s, h⟩
theorem ty_L {p : Addr} {xs : List V} (hs : SqL K H p xs) (h : Q (.ty "list") H) : rTyp K [.ref p] H Q := ⟨_, _, rfl, .lst hs, h⟩
theorem ty_T {p : Addr} {xs : List V} (hs : SqT K H p xs) (h : Q (.ty "tuple") H) : rTyp K [.ref p] H Q := ⟨_, _, rfl, .tup hs, h⟩
theorem ma_s {s : Str} (h : Q (.bl (Txt.isascii s)) H) : rM_isascii (.str s) [] H Q := ⟨s, rfl, rfl, True.intro, h⟩
theorem mp_s {s : Str} (h : Q (.bl (Txt.isprintable s)) H) : rM_isprintable (.str s) [] H Q := ⟨s, rfl, rfl, True.intro, h⟩
theorem mdg_s {s : Str} (h : Q (.bl (Txt.isdigit s)) H) : rM_isdigit (.str s) [] H Q := ⟨s, rfl, rfl, True.intro, h⟩
theorem mf_s {s u : Str} (h : Q (.int (Txt.find s u)) H) : rM_find (.str s) [.str u] H Q := ⟨s, u, rfl, rfl, h⟩
theorem al_b {p : Addr} {bs : List Bool} (hs : SqL K H p (bs.map V.bl)) (h : Q (.bl (bs.all id)) H) : rAll K [.ref p] H Q := ⟨p, bs, rfl, hs, h⟩
/-! statements -/
variable {n b k : St → Hp → Prop} {rt : VK} {p q s w : TS} {g : TG} {D : Ends}
theorem s_seq (h : p ⟨q ⟨n, rt, b, k⟩, rt, b, k⟩ σ H) : tSeq p q ⟨n, rt, b, k⟩ σ H := h
theorem s_asg (h : te σ H fun x H1 => g x σ H1 n) : tAsg te g ⟨n, rt, b, k⟩ σ H := h
theorem s_gn {i : Nat} {N : St → Hp → Prop} (h : N (σ.set i (some v)) H) : gName i v σ H N := h
theorem s_if (h : c σ H fun d H1 => if d = true then p D σ H1 else q D σ H1) : tIfS c p q D σ H := h
theorem s_ret (h : te σ H rt) : tRet te ⟨n, rt, b, k⟩ σ H := h
theorem s_retN (h : rt .non H) : tRetN ⟨n, rt, b, k⟩ σ H := h
theorem s_next (h : n σ H) : tNext ⟨n, rt, b, k⟩ σ H := h
theorem s_brk (h : b σ H) : tBreak ⟨n, rt, b, k⟩ σ H := h
theorem s_cont (h : k σ H) : tCont ⟨n, rt, b, k⟩ σ H := h
theorem s_drop (h : te σ H fun _ H1 => n σ H1) : tDrop te ⟨n, rt, b, k⟩ σ H := h
theorem s_par {i j : Nat} (h : tr σ H fun vs H1 => ∃ v w, vs = [v, w] ∧ n ((σ.set i (some v)).set j (some w)) H1) : tPar i j tr ⟨n, rt, b, k⟩ σ H := h
theorem s_par3 {i j l : Nat} (h : tr σ H fun vs H1 => ∃ u v w, vs = [u, v, w] ∧ n (((σ.set i (some u)).set j (some v)).set l (some w)) H1) : tPar3 i j l tr ⟨n, rt, b, k⟩ σ H := h
theorem x_gsub {to ti : TE} {t : TSet} {N : St → Hp → Prop} (h : to σ H fun o H1 => ti σ H1 fun i H2 => t o i v H2 fun H3 => N σ H3) : gSub to ti t v σ H N := h
theorem st_L {p : Addr} {xs : List V} {i : Int} {N : Hp → Prop} (hp : H p = some (.lst xs)) (h0 : 0 ≤ i) (h1 : i < (xs.length : Int)) (h : N (upd H p (.lst (xs.set i.toNat v)))) : rSetL (.ref p) (.int i) v H N := by
  refine ⟨p, xs, i, i.toNat, rfl, rfl, hp, ?_, h⟩
  unfold ixN
  rw [if_pos h0]
  first | rw [if_pos h1] | simp [h1]
theorem pop_L {p : Addr} {x : V} {xs : List V} (hp : H p = some (.lst (x :: xs))) (h : Q x (upd H p (.lst xs))) : rPOP (.ref p) [.int 0] H Q := by
  refine ⟨p, x :: xs, 0, 0, x, rfl, rfl, hp, by decide, by decide, ?_, rfl, h⟩
  simp [seqIndex?]
theorem w_while {c : TT} {tb : TS} (W : Nat → St → Hp → Prop) (m0 : Nat) (h0 : W m0 σ H) (hs : ∀ m σ H, W m σ H → c σ H fun d H1 => if d = true then ∃ N : St → Hp → Prop, (∀ σ' H', N σ' H' → ∃ m', m' < m ∧ W m' σ' H') ∧ tb ⟨N, rt, n, N⟩ σ H1 else n σ H1) : tWhile c tb ⟨n, rt, b, k⟩ σ H :=
  ⟨W, ⟨m0, h0⟩, hs⟩
/-! loops -/
def LoopW (J : It) (g : TG) (tb : TS) (n : St → Hp → Prop) (rt : VK) (σ : St) (H : Hp) : Prop := ∃ W : Nat → Nat → St → Hp → Prop, (∃ m, W 0 m σ H) ∧ ∀ i m σ H, W i m σ H →
  (J.stop i H ∧ n σ H) ∨ (J.go i H ∧ ∃ N : St → Hp → Prop, (∀ σ' H', N σ' H' → ∃ m', m' < m ∧ W (i + 1) m' σ' H') ∧ ∀ x H', J.yld i H x H' → g x σ H' fun σ2 H2 => tb ⟨N, rt, n, N⟩ σ2 H2)
def ForR1 (g : TG) (tb : TS) (n : St → Hp → Prop) (rt : VK) (σ : St) (vs : List V) (H : Hp) : Prop := ∃ j : Int, vs = [.int j] ∧ -(2 ^ 62) ≤ j ∧ j < 2 ^ 62 ∧ LoopW (Itr 0 j.toNat) g tb n rt σ H
def ForR2 (g : TG) (tb : TS) (n : St → Hp → Prop) (rt : VK) (σ : St) (vs : List V) (H : Hp) : Prop := ∃ i j : Int, vs = [.int i, .int j] ∧ (-(2 ^ 62) ≤ i ∧ i < 2 ^ 62 ∧ -(2 ^ 62) ≤ j ∧ j < 2 ^ 62) ∧ LoopW (Itr i (j - i).toNat) g tb n rt σ H
def ForL (K : PySem.W.Frag) (g : TG) (tb : TS) (n : St → Hp → Prop) (rt : VK) (σ : St) (x : V) (H : Hp) : Prop := ∃ a, x = .ref a ∧ (∃ xs, SqL K H a xs) ∧ LoopW (Itl K a) g tb n rt σ H
def ForT (K : PySem.W.Frag) (g : TG) (tb : TS) (n : St → Hp → Prop) (rt : VK) (σ : St) (x : V) (H : Hp) : Prop := ∃ a, x = .ref a ∧ (∃ xs, SqT K H a xs) ∧ LoopW (Itt K a) g tb n rt σ H
def ForS (g : TG) (tb : TS) (n : St → Hp → Prop) (rt : VK) (σ : St) (x : V) (H : Hp) : Prop := ∃ z, x = .str z ∧ LoopW (Its z) g tb n rt σ H
theorem f_r1 (h : tr σ H fun vs H1 => ForR1 g p n rt σ vs H1) : tFor (iRng1 tr) g p ⟨n, rt, b, k⟩ σ H := h
theorem f_r2 (h : tr σ H fun vs H1 => ForR2 g p n rt σ vs H1) : tFor (iRng2 tr) g p ⟨n, rt, b, k⟩ σ H := h
theorem f_l (h : te σ H fun x H1 => ForL K g p n rt σ x H1) : tFor (iList K te) g p ⟨n, rt, b, k⟩ σ H := h
theorem f_t (h : te σ H fun x H1 => ForT K g p n rt σ x H1) : tFor (iTup K te) g p ⟨n, rt, b, k⟩ σ H := h
theorem f_s (h : te σ H fun x H1 => ForS g p n rt σ x H1) : tFor (iStr te) g p ⟨n, rt, b, k⟩ σ H := h
theorem loopR {lo : Int} {m : Nat} (Pv : Nat → St → Hp → Prop) (h0 : Pv 0 σ H) (hs : ∀ i σ H, i < m → Pv i σ H → g (.int (lo + i)) σ H fun σ2 H2 => p ⟨Pv (i + 1), rt, n, Pv (i + 1)⟩ σ2 H2) (hd : ∀ σ H, Pv m σ H → n σ H) : LoopW (Itr lo m) g p n rt σ H := for_range (D := ⟨n, rt, n, n⟩) Pv h0 hs hd
theorem loopL {a : Addr} {xs : List V} (Pv : Nat → St → Hp → Prop) (h0 : Pv 0 σ H) (hl : ∀ i σ H, i ≤ xs.length → Pv i σ H → SqL K H a xs) (hs : ∀ i x σ H, xs[i]? = some x → Pv i σ H → g x σ H fun σ2 H2 => p ⟨Pv (i + 1), rt, n, Pv (i + 1)⟩ σ2 H2) (hd : ∀ σ H, Pv xs.length σ H → n σ H) : LoopW (Itl K a) g p n rt σ H := for_list (D := ⟨n, rt, n, n⟩) Pv h0 hl hs hd
theorem loopT {a : Addr} {xs : List V} (Pv : Nat → St → Hp → Prop) (h0 : Pv 0 σ H) (hl : ∀ i σ H, i ≤ xs.length → Pv i σ H → SqT K H a xs) (hs : ∀ i x σ H, xs[i]? = some x → Pv i σ H → g x σ H fun σ2 H2 => p ⟨Pv (i + 1), rt, n, Pv (i + 1)⟩ σ2 H2) (hd : ∀ σ H, Pv xs.length σ H → n σ H) : LoopW (Itt K a) g p n rt σ H := for_tup (D := ⟨n, rt, n, n⟩) Pv h0 hl hs hd
theorem for1_mk {j : Int} (hj : -(2 ^ 62) ≤ j) (hj2 : j < 2 ^ 62) (Pv : Nat → St → Hp → Prop) (h0 : Pv 0 σ H) (hs : ∀ (i : Nat) σ H, i < j.toNat → Pv i σ H → g (.int (i : Int)) σ H fun σ2 H2 => p ⟨Pv (i + 1), rt, n, Pv (i + 1)⟩ σ2 H2) (hd : ∀ σ H, Pv j.toNat σ H → n σ H) : ForR1 g p n rt σ [.int j] H :=
  ⟨j, rfl, hj, hj2, loopR Pv h0 (fun i σ H hi hp => by rw [Int.zero_add]; exact hs i σ H hi hp) hd⟩
theorem for2_mk {lo j : Int} (hj : -(2 ^ 62) ≤ lo ∧ lo < 2 ^ 62 ∧ -(2 ^ 62) ≤ j ∧ j < 2 ^ 62) (Pv : Nat → St → Hp → Prop) (h0 : Pv 0 σ H) (hs : ∀ (i : Nat) σ H, i < (j - lo).toNat → Pv i σ H → g (.int (lo + (i : Int))) σ H fun σ2 H2 => p ⟨Pv (i + 1), rt, n, Pv (i + 1)⟩ σ2 H2) (hd : ∀ σ H, Pv (j - lo).toNat σ H → n σ H) : ForR2 g p n rt σ [.int lo, .int j] H :=
  ⟨lo, j, rfl, hj, loopR Pv h0 hs hd⟩
theorem forL_mk {a : Addr} {xs : List V} (hx : SqL K H a xs) (Pv : Nat → St → Hp → Prop) (h0 : Pv 0 σ H) (hl : ∀ i σ H, i ≤ xs.length → Pv i σ H → SqL K H a xs) (hs : ∀ i x σ H, xs[i]? = some x → Pv i σ H → g x σ H fun σ2 H2 => p ⟨Pv (i + 1), rt, n, Pv (i + 1)⟩ σ2 H2) (hd : ∀ σ H, Pv xs.length σ H → n σ H) : ForL K g p n rt σ (.ref a) H := ⟨a, rfl, ⟨xs, hx⟩, loopL Pv h0 hl hs hd⟩
theorem forT_mk {a : Addr} {xs : List V} (hx : SqT K H a xs) (Pv : Nat → St → Hp → Prop) (h0 : Pv 0 σ H) (hl : ∀ i σ H, i ≤ xs.length → Pv i σ H → SqT K H a xs) (hs : ∀ i x σ H, xs[i]? = some x → Pv i σ H → g x σ H fun σ2 H2 => p ⟨Pv (i + 1), rt, n, Pv (i + 1)⟩ σ2 H2) (hd : ∀ σ H, Pv xs.length σ H → n σ H) : ForT K g p n rt σ (.ref a) H := ⟨a, rfl, ⟨xs, hx⟩, loopT Pv h0 hl hs hd⟩
/-! comprehensions -/
def LcW (J : It) (g : TG) (tt : TT) (te : TE) (vs : List Nat) (σ : St) (Q : VK) (H1 : Hp) : Prop := ∀ D, H1 D = none → ∃ W : Nat → Nat → Hp → Prop, (∃ m, W 0 m (upd H1 D (.lst []))) ∧ ∀ i m H, W i m H →
  (J.stop i H ∧ Q (.ref D) H) ∨ (J.go i H ∧ ∃ Nx : Hp → Prop, (∀ H', Nx H' → ∃ m', m' < m ∧ W (i + 1) m' H') ∧ ∀ x H', J.yld i H x H' → g x (wipe σ vs) H' fun σ2 H2 => wipe σ2 vs = wipe σ vs ∧ tt σ2 H2 fun b H3 =>
    if b = true then te σ2 H3 fun y H4 => ∃ acc, H4 D = some (.lst acc) ∧ acc.length < sizeLine ∧ Nx (upd H4 D (.lst (acc ++ [y]))) else Nx H3)
def LcR1 (g : TG) (tt : TT) (te : TE) (ws : List Nat) (σ : St) (Q : VK) (vs : List V) (H : Hp) : Prop := ∃ j : Int, vs = [.int j] ∧ -(2 ^ 62) ≤ j ∧ j < 2 ^ 62 ∧ LcW (Itr 0 j.toNat) g tt te ws σ Q H
def LcR2 (g : TG) (tt : TT) (te : TE) (ws : List Nat) (σ : St) (Q : VK) (vs : List V) (H : Hp) : Prop := ∃ i j : Int, vs = [.int i, .int j] ∧ (-(2 ^ 62) ≤ i ∧ i < 2 ^ 62 ∧ -(2 ^ 62) ≤ j ∧ j < 2 ^ 62) ∧ LcW (Itr i (j - i).toNat) g tt te ws σ Q H
def LcL (K : PySem.W.Frag) (g : TG) (tt : TT) (te : TE) (ws : List Nat) (σ : St) (Q : VK) (x : V) (H : Hp) : Prop := ∃ a, x = .ref a ∧ (∃ xs, SqL K H a xs) ∧ LcW (Itl K a) g tt te ws σ Q H
def LcT (K : PySem.W.Frag) (g : TG) (tt : TT) (te : TE) (ws : List Nat) (σ : St) (Q : VK) (x : V) (H : Hp) : Prop := ∃ a, x = .ref a ∧ (∃ xs, SqT K H a xs) ∧ LcW (Itt K a) g tt te ws σ Q H
def LcS (g : TG) (tt : TT) (te : TE) (ws : List Nat) (σ : St) (Q : VK) (x : V) (H : Hp) : Prop := ∃ z, x = .str z ∧ LcW (Its z) g tt te ws σ Q H
variable {ws : List Nat}
theorem c_r1 (h : tr σ H fun vs H1 => LcR1 g t te ws σ Q vs H1) : tLc (iRng1 tr) g t te ws σ H Q := h
theorem c_r2 (h : tr σ H fun vs H1 => LcR2 g t te ws σ Q vs H1) : tLc (iRng2 tr) g t te ws σ H Q := h
theorem c_l (h : ta σ H fun x H1 => LcL K g t te ws σ Q x H1) : tLc (iList K ta) g t te ws σ H Q := h
theorem c_t (h : ta σ H fun x H1 => LcT K g t te ws σ Q x H1) : tLc (iTup K ta) g t te ws σ H Q := h
theorem c_s (h : ta σ H fun x H1 => LcS g t te ws σ Q x H1) : tLc (iStr ta) g t te ws σ H Q := h
theorem lcR1_mk {j : Int} (hj : -(2 ^ 62) ≤ j) (hj2 : j < 2 ^ 62) (Pv : Addr → Nat → Hp → Prop) (h0 : ∀ D, H D = none → Pv D 0 (upd H D (.lst [])))
    (hs : ∀ D (i : Nat) H', H D = none → i < j.toNat → Pv D i H' → g (.int (i : Int)) (wipe σ ws) H' fun σ2 H2 => wipe σ2 ws = wipe σ ws ∧ t σ2 H2 fun b H3 => if b = true then te σ2 H3 fun y H4 => ∃ acc, H4 D = some (.lst acc) ∧ acc.length < sizeLine ∧ Pv D (i + 1) (upd H4 D (.lst (acc ++ [y]))) else Pv D (i + 1) H3)
    (hd : ∀ D H', H D = none → Pv D j.toNat H' → Q (.ref D) H') : LcR1 g t te ws σ Q [.int j] H :=
  ⟨j, rfl, hj, hj2, fun D hD => lc_range (lo := 0) (n := j.toNat) (Pv D) (h0 D hD) (fun i H hi hp => by rw [Int.zero_add]; exact hs D i H hD hi hp) (fun H' hp => hd D H' hD hp)⟩
theorem lcR2_mk {lo j : Int} (hj : -(2 ^ 62) ≤ lo ∧ lo < 2 ^ 62 ∧ -(2 ^ 62) ≤ j ∧ j < 2 ^ 62) (Pv : Addr → Nat → Hp → Prop) (h0 : ∀ D, H D = none → Pv D 0 (upd H D (.lst [])))
    (hs : ∀ D (i : Nat) H', H D = none → i < (j - lo).toNat → Pv D i H' → g (.int (lo + (i : Int))) (wipe σ ws) H' fun σ2 H2 => wipe σ2 ws = wipe σ ws ∧ t σ2 H2 fun b H3 => if b = true then te σ2 H3 fun y H4 => ∃ acc, H4 D = some (.lst acc) ∧ acc.length < sizeLine ∧ Pv D (i + 1) (upd H4 D (.lst (acc ++ [y]))) else Pv D (i + 1) H3)
    (hd : ∀ D H', H D = none → Pv D (j - lo).toNat H' → Q (.ref D) H') : LcR2 g t te ws σ Q [.int lo, .int j] H :=
  ⟨lo, j, rfl, hj, fun D hD => lc_range (lo := lo) (n := (j - lo).toNat) (Pv D) (h0 D hD) (fun i H hi hp => hs D i H hD hi hp) (fun H' hp => hd D H' hD hp)⟩
theorem lcL_mk {a : Addr} {xs : List V} (hx : SqL K H a xs) (Pv : Addr → Nat → Hp → Prop) (h0 : ∀ D, H D = none → Pv D 0 (upd H D (.lst []))) (hl : ∀ D i H', H D = none → i ≤ xs.length → Pv D i H' → SqL K H' a xs)
    (hs : ∀ D i x H', H D = none → xs[i]? = some x → Pv D i H' → g x (wipe σ ws) H' fun σ2 H2 => wipe σ2 ws = wipe σ ws ∧ t σ2 H2 fun b H3 => if b = true then te σ2 H3 fun y H4 => ∃ acc, H4 D = some (.lst acc) ∧ acc.length < sizeLine ∧ Pv D (i + 1) (upd H4 D (.lst (acc ++ [y]))) else Pv D (i + 1) H3)
    (hd : ∀ D H', H D = none → Pv D xs.length H' → Q (.ref D) H') : LcL K g t te ws σ Q (.ref a) H :=
  ⟨a, rfl, ⟨xs, hx⟩, fun D hD => lc_list (xs := xs) (Pv D) (h0 D hD) (fun i H hi hp => hl D i H hD hi hp) (fun i x H hi hp => hs D i x H hD hi hp) (fun H' hp => hd D H' hD hp)⟩
theorem lcT_mk {a : Addr} {xs : List V} (hx : SqT K H a xs) (Pv : Addr → Nat → Hp → Prop) (h0 : ∀ D, H D = none → Pv D 0 (upd H D (.lst []))) (hl : ∀ D i H', H D = none → i ≤ xs.length → Pv D i H' → SqT K H' a xs)
    (hs : ∀ D i x H', H D = none → xs[i]? = some x → Pv D i H' → g x (wipe σ ws) H' fun σ2 H2 => wipe σ2 ws = wipe σ ws ∧ t σ2 H2 fun b H3 => if b = true then te σ2 H3 fun y H4 => ∃ acc, H4 D = some (.lst acc) ∧ acc.length < sizeLine ∧ Pv D (i + 1) (upd H4 D (.lst (acc ++ [y]))) else Pv D (i + 1) H3)
    (hd : ∀ D H', H D = none → Pv D xs.length H' → Q (.ref D) H') : LcT K g t te ws σ Q (.ref a) H :=
  ⟨a, rfl, ⟨xs, hx⟩, fun D hD => lc_tup (xs := xs) (Pv D) (h0 D hD) (fun i H hi hp => hl D i H hD hi hp) (fun i x H hi hp => hs D i x H hD hi hp) (fun H' hp => hd D H' hD hp)⟩
theorem s_cut (M : St → Hp → Prop) (h : p ⟨M, rt, b, k⟩ σ H) (hq : ∀ σ' H', M σ' H' → q ⟨n, rt, b, k⟩ σ' H') : Evl.tCut p q ⟨n, rt, b, k⟩ σ H := ⟨M, h, hq⟩
theorem s_p2 {P : V → V → Prop} (h : P x y) : ∃ v w, [x, y] = [v, w] ∧ P v w := ⟨x, y, rfl, h⟩
theorem s_p3 {P : V → V → V → Prop} (h : P x y z) : ∃ u v w, [x, y, z] = [u, v, w] ∧ P u v w := ⟨x, y, z, rfl, h⟩
theorem iteTd {p : Prop} [Decidable p] {A B : Prop} (h : p) (q : A) : if decide p = true then A else B := by
  rw [decide_eq_true h]
  exact iteT q
theorem iteFd {p : Prop} [Decidable p] {A B : Prop} (h : ¬ p) (q : B) : if decide p = true then A else B := by
  rw [decide_eq_false h]
  exact iteF q
theorem iteNt {A B : Prop} (q : B) : if (!true) = true then A else B := iteF q
theorem iteNf {A B : Prop} (q : A) : if (!false) = true then A else B := iteT q
theorem iteNd {p : Prop} [Decidable p] {A B : Prop} (h : p) (q : B) : if (!decide p) = true then A else B := by
  rw [decide_eq_true h]
  exact iteF q
theorem iteNdF {p : Prop} [Decidable p] {A B : Prop} (h : ¬ p) (q : A) : if (!decide p) = true then A else B := by
  rw [decide_eq_false h]
  exact iteT q
theorem ite2' {c : Bool} {A B : Prop} (h1 : c = true → A) (h2 : c = false → B) : if c = true then A else B := by
  cases c with
  | true => exact h1 rfl
  | false => exact h2 rfl
end
end My

set_option Elab.async false
set_option linter.all false
set_option maxRecDepth 100000
set_option maxHeartbeats 400000
/-! ### texts as lists of codes; heaps -/
namespace My
open PySem PySem.Spec PyProof.Rows L2
abbrev S (l : List Nat) : Str := SX.S l
theorem S_cps (l : List Nat) : (S l).cps.toList = l := rfl
theorem S_len (l : List Nat) : (S l).length = l.length := SX.S_len l
theorem S_eta (z : Str) : z = S z.cps.toList := by
  rcases z with ⟨⟨l⟩⟩
  rfl
theorem S_app (a b : List Nat) : S a ++ S b = S (a ++ b) := by
  show (⟨a.toArray ++ b.toArray⟩ : Str) = ⟨(a ++ b).toArray⟩
  simp
theorem S_inj {a b : List Nat} (h : S a = S b) : a = b := congrArg (fun z : Str => z.cps.toList) h
theorem S_eq (a b : List Nat) : decide (S a = S b) = decide (a = b) := by
  by_cases h : a = b
  · subst h; simp
  · have h2 : ¬ S a = S b := fun e => h (S_inj e)
    rw [decide_eq_false h, decide_eq_false h2]
theorem S_one (c : Nat) : (⟨#[c]⟩ : Str) = S [c] := rfl
/-! slices -/
theorem cut_from (l : List Nat) (a : Nat) : cutS (S l) (some (a : Int)) none = S (l.drop a) := by
  unfold cutS
  rw [S_len, HT.sIx_nat, HT.sIx_none, S_cps]
  apply congrArg S
  rcases Nat.le_total a l.length with h | h
  · rw [Nat.min_eq_left h]
    exact List.take_of_length_le (by rw [List.length_drop]; exact Nat.le_refl _)
  · rw [Nat.min_eq_right h, List.drop_eq_nil_of_le h]
    simp
theorem cut_to (l : List Nat) (b : Nat) : cutS (S l) none (some (b : Int)) = S (l.take b) := by
  unfold cutS
  rw [S_len, HT.sIx_nat, HT.sIx_none, S_cps]
  apply congrArg S
  rw [List.drop_zero, Nat.sub_zero]
  rcases Nat.le_total b l.length with h | h
  · rw [Nat.min_eq_left h]
  · rw [Nat.min_eq_right h, List.take_of_length_le (Nat.le_refl _), List.take_of_length_le h]
theorem cut_mid (l : List Nat) (a b : Nat) : cutS (S l) (some (a : Int)) (some (b : Int)) = S ((l.take b).drop a) := by
  unfold cutS
  rw [S_len, HT.sIx_nat, HT.sIx_nat, S_cps]
  apply congrArg S
  rw [List.drop_take]
  rcases Nat.le_total a l.length with h | h
  · rw [Nat.min_eq_left h]
    rcases Nat.le_total b l.length with h2 | h2
    · rw [Nat.min_eq_left h2]
    · rw [Nat.min_eq_right h2, List.take_of_length_le (by rw [List.length_drop]; exact Nat.le_refl _), List.take_of_length_le (by rw [List.length_drop]; omega)]
  · rw [Nat.min_eq_right h, List.drop_eq_nil_of_le h]
    simp
theorem cut_fromI (l : List Nat) {a : Int} (h : 0 ≤ a) : cutS (S l) (some a) none = S (l.drop a.toNat) := by
  have e := cut_from l a.toNat
  rwa [Int.toNat_of_nonneg h] at e
theorem cut_toI (l : List Nat) {a : Int} (h : 0 ≤ a) : cutS (S l) none (some a) = S (l.take a.toNat) := by
  have e := cut_to l a.toNat
  rwa [Int.toNat_of_nonneg h] at e
theorem cut_midI (l : List Nat) {a b : Int} (h : 0 ≤ a) (h2 : 0 ≤ b) : cutS (S l) (some a) (some b) = S ((l.take b.toNat).drop a.toNat) := by
  have e := cut_mid l a.toNat b.toNat
  rwa [Int.toNat_of_nonneg h, Int.toNat_of_nonneg h2] at e
theorem repS_S (l : List Nat) (k : Int) : repS (S l) k = S (List.replicate k.toNat l).flatten := rfl
theorem join_S (ys : List (List Nat)) : Txt.join (S []) (ys.map S) = S ys.flatten := by
  rw [SX.join_S]
  apply congrArg S
  induction ys with
  | nil => rfl
  | cons y ys ih =>
    cases ys with
    | nil => simp [TL.joinL]
    | cons z zs =>
      have e : TL.joinL [] (y :: z :: zs) = y ++ ([] ++ TL.joinL [] (z :: zs)) := by first | rfl | simp [TL.joinL]
      rw [e, ih]
      rfl
/-! an item at a place -/
theorem at_nat {α : Type} {xs : List α} {i : Int} {v : α} (h0 : 0 ≤ i) (h : xs[i.toNat]? = some v) : atI xs i = some v := by
  have e := atI_nat h
  rwa [Int.toNat_of_nonneg h0] at e
theorem at_in {α : Type} {xs : List α} {i : Int} (h0 : 0 ≤ i) (h : i < (xs.length : Int)) : atI xs i = some (xs[i.toNat]'(by omega)) := at_nat h0 (List.getElem?_eq_getElem (by omega))
/-! leaves over S -/
section
variable {K : PySem.W.Frag} {H : Hp} {Q : VK} {l m : List Nat} {a b : Int}
theorem big_line {n : Nat} (h : n ≤ 1000000) : n ≤ sizeLine := Nat.le_trans h (by decide)
theorem sl_to (ha : 0 ≤ a) (hl : l.length ≤ 1000000) (q : Q (.str (S (l.take a.toNat))) H) : rSL K (.str (S l)) none (some a) H Q := sl_S (by rw [S_len]; exact big_line hl) (by rw [cut_toI l ha]; exact q)
theorem sl_from (ha : 0 ≤ a) (hl : l.length ≤ 1000000) (q : Q (.str (S (l.drop a.toNat))) H) : rSL K (.str (S l)) (some a) none H Q := sl_S (by rw [S_len]; exact big_line hl) (by rw [cut_fromI l ha]; exact q)
theorem sl_mid (ha : 0 ≤ a) (hb : 0 ≤ b) (hl : l.length ≤ 1000000) (q : Q (.str (S ((l.take b.toNat).drop a.toNat))) H) : rSL K (.str (S l)) (some a) (some b) H Q := sl_S (by rw [S_len]; exact big_line hl) (by rw [cut_midI l ha hb]; exact q)
theorem a_SS (hl : l.length + m.length ≤ 1000000) (q : Q (.str (S (l ++ m))) H) : rADD K (.str (S l)) (.str (S m)) H Q := a_ss (by rw [S_len, S_len]; exact big_line hl) (by rw [S_app]; exact q)
theorem ln_S (hl : l.length ≤ 1000000) (q : Q (.int l.length) H) : rLEN K [.str (S l)] H Q := ln_s (by rw [S_len]; exact big_line hl) (by rw [S_len]; exact q)
theorem ix_SS (h0 : 0 ≤ a) (h1 : a < (l.length : Int)) (hl : l.length ≤ 1000000) (q : ∀ c, l[a.toNat]? = some c → Q (.str (S [c])) H) : rIX K (.str (S l)) (.int a) H Q :=
  ix_S (by rw [S_len]; exact big_line hl) (at_in h0 h1) (q _ (List.getElem?_eq_getElem (by omega)))
theorem e_SS (q : Q (.bl (decide (l = m))) H) : rEQ K (.str (S l)) (.str (S m)) H Q := e_ss (by rw [S_eq]; exact q)
theorem ne_SS (q : Q (.bl (!decide (l = m))) H) : rNE K (.str (S l)) (.str (S m)) H Q := ne_ss (by rw [S_eq]; exact q)
theorem m_SI (h1 : a < 2 ^ 40) (h0 : 0 ≤ a) (hl : l.length * a.toNat ≤ 1000000) (q : Q (.str (S (List.replicate a.toNat l).flatten)) H) : rMUL K (.str (S l)) (.int a) H Q := m_si (by omega) (by omega) (by rw [S_len]; exact big_line hl) q
theorem jn_0 {p : Addr} {ys : List (List Nat)} (hp : SqL K H p ((ys.map S).map V.str)) (hl : ys.flatten.length ≤ 1000000) (q : Q (.str (S ys.flatten)) H) : rJoin K (.str (S [])) [.ref p] H Q := by
  refine ⟨S [], p, ys.map S, rfl, rfl, .inl hp, ?_, by rw [join_S]; exact q⟩
  have e : ((ys.map S).map (·.length)).sum = ys.flatten.length := by
    rw [List.length_flatten, List.map_map]
    apply congrArg List.sum
    exact List.map_congr_left fun l _ => S_len l
  rw [e, S_len]
  exact Nat.le_trans (by simpa using hl) (by decide)
end
/-! printing ASCII -/
def isT (l : List Nat) : Bool := l.all fun c => decide (32 ≤ c) && decide (c ≤ 126)
theorem printable_lt {c : Nat} (h : c < 128) : Unicode.isPrintable c = (decide (32 ≤ c) && decide (c ≤ 126)) := by
  have h2 : ∀ c : _root_.Fin 128, Unicode.isPrintable c.val = (decide (32 ≤ c.val) && decide (c.val ≤ 126)) := by decide +kernel
  exact h2 ⟨c, h⟩
theorem digit_lt {c : Nat} (h : c < 128) : Unicode.isDigit c = (decide (48 ≤ c) && decide (c ≤ 57)) := by
  have h2 : ∀ c : _root_.Fin 128, Unicode.isDigit c.val = (decide (48 ≤ c.val) && decide (c.val ≤ 57)) := by decide +kernel
  exact h2 ⟨c, h⟩
theorem is_text_eq (l : List Nat) : (Txt.isascii (S l) && Txt.isprintable (S l)) = isT l := by
  unfold Txt.isascii Txt.isprintable isT
  rw [← Array.all_toList, ← Array.all_toList, S_cps]
  induction l with
  | nil => rfl
  | cons c l ih =>
    simp only [List.all_cons]
    rw [← ih]
    by_cases h : c < 128
    · rw [printable_lt h, decide_eq_true h]
      cases (decide (32 ≤ c) && decide (c ≤ 126)) <;> cases (l.all fun x => decide (x < 128)) <;> cases (l.all Unicode.isPrintable) <;> rfl
    · rw [decide_eq_false h]
      have h2 : (decide (32 ≤ c) && decide (c ≤ 126)) = false := by
        rw [decide_eq_false (show ¬ c ≤ 126 by omega), Bool.and_false]
      rw [h2]
      rfl
def isD (l : List Nat) : Bool := l.all fun c => decide (48 ≤ c) && decide (c ≤ 57)
theorem isT_mem {l : List Nat} (h : isT l = true) {c : Nat} (hc : c ∈ l) : 32 ≤ c ∧ c ≤ 126 := by
  have z := List.all_eq_true.mp h c hc
  rw [Bool.and_eq_true, decide_eq_true_eq, decide_eq_true_eq] at z
  exact z
theorem isT_of {l : List Nat} (h : ∀ c ∈ l, 32 ≤ c ∧ c ≤ 126) : isT l = true := List.all_eq_true.mpr fun c hc => by
  rw [Bool.and_eq_true, decide_eq_true_eq, decide_eq_true_eq]
  exact h c hc
theorem isT_app {a b : List Nat} : isT (a ++ b) = (isT a && isT b) := List.all_append
theorem isT_take {a : List Nat} (n : Nat) (h : isT a = true) : isT (a.take n) = true := isT_of fun _ hc => isT_mem h (List.mem_of_mem_take hc)
theorem isT_drop {a : List Nat} (n : Nat) (h : isT a = true) : isT (a.drop n) = true := isT_of fun _ hc => isT_mem h (List.mem_of_mem_drop hc)
theorem isdigit_eq {l : List Nat} (h : isT l = true) : Txt.isdigit (S l) = (decide (l ≠ []) && isD l) := by
  unfold Txt.isdigit isD
  rw [← Array.all_toList, S_cps, S_len]
  have e : l.all Unicode.isDigit = l.all fun c => decide (48 ≤ c) && decide (c ≤ 57) := by
    rw [Bool.eq_iff_iff, List.all_eq_true, List.all_eq_true]
    constructor
    · intro z c hc
      rw [← digit_lt (by have := isT_mem h hc; omega)]
      exact z c hc
    · intro z c hc
      rw [digit_lt (by have := isT_mem h hc; omega)]
      exact z c hc
  rw [e]
  cases l with
  | nil => rfl
  | cons c l => simp
/-! lists of texts, of numbers -/
def TxtAll (n : Nat) (xs : List V) : Prop := ∀ x ∈ xs, ∃ l : List Nat, l.length ≤ n ∧ isT l = true ∧ x = V.str (S l)
theorem txt_nil {n : Nat} : TxtAll n [] := fun _ h => by cases h
theorem txt_cons {n : Nat} {l : List Nat} {xs : List V} (h1 : l.length ≤ n) (h2 : isT l = true) (h : TxtAll n xs) : TxtAll n (.str (S l) :: xs) := fun x hx => by
  rcases List.mem_cons.mp hx with rfl | hx
  · exact ⟨l, h1, h2, rfl⟩
  · exact h x hx
theorem txt_app {n : Nat} {xs ys : List V} (h1 : TxtAll n xs) (h2 : TxtAll n ys) : TxtAll n (xs ++ ys) := fun x hx => (List.mem_append.mp hx).elim (h1 x) (h2 x)
theorem ix_txt {K : PySem.W.Frag} {H : Hp} {Q : VK} {p : Addr} {zs : List V} {n : Nat} {i : Int} (hp : SqL K H p zs) (ha : TxtAll n zs) (h0 : 0 ≤ i) (h1 : i < (zs.length : Int)) (q : ∀ l : List Nat, l.length ≤ n → isT l = true → Q (.str (S l)) H) : rIX K (.ref p) (.int i) H Q := by
  refine ix_L hp (at_in h0 h1) ?_
  have hi : i.toNat < zs.length := by omega
  obtain ⟨l, a, b, e⟩ := ha zs[i.toNat] (List.getElem_mem hi)
  rw [e]
  exact q l a b
def IntAll (n : Nat) (xs : List V) : Prop := ∀ x ∈ xs, ∃ z : Nat, z < n ∧ x = V.int z
theorem int_nil {n : Nat} : IntAll n [] := fun _ h => by cases h
theorem int_cons {n : Nat} {i : Int} {xs : List V} (h0 : 0 ≤ i) (h1 : i < (n : Int)) (h : IntAll n xs) : IntAll n (.int i :: xs) := fun x hx => by
  rcases List.mem_cons.mp hx with rfl | hx
  · exact ⟨i.toNat, by omega, by rw [Int.toNat_of_nonneg h0]⟩
  · exact h x hx
theorem ix_int {K : PySem.W.Frag} {H : Hp} {Q : VK} {p : Addr} {zs : List V} {n : Nat} {i : Int} (hp : SqL K H p zs) (ha : IntAll n zs) (h0 : 0 ≤ i) (h1 : i < (zs.length : Int)) (q : ∀ z : Nat, z < n → Q (.int z) H) : rIX K (.ref p) (.int i) H Q := by
  refine ix_L hp (at_in h0 h1) ?_
  have hi : i.toNat < zs.length := by omega
  obtain ⟨z, a, e⟩ := ha zs[i.toNat] (List.getElem_mem hi)
  rw [e]
  exact q z a
def IntP (F : Nat → Prop) (xs : List V) : Prop := ∀ x ∈ xs, ∃ z : Nat, F z ∧ x = V.int z
theorem intp_nil {F : Nat → Prop} : IntP F [] := fun _ h => by cases h
theorem intp_cons {F : Nat → Prop} {i : Int} {xs : List V} (h0 : 0 ≤ i) (h1 : F i.toNat) (h : IntP F xs) : IntP F (.int i :: xs) := fun x hx => by
  rcases List.mem_cons.mp hx with rfl | hx
  · exact ⟨i.toNat, h1, by rw [Int.toNat_of_nonneg h0]⟩
  · exact h x hx
theorem ix_intp {K : PySem.W.Frag} {H : Hp} {Q : VK} {p : Addr} {zs : List V} {F : Nat → Prop} {i : Int} (hp : SqL K H p zs) (ha : IntP F zs) (h0 : 0 ≤ i) (h1 : i < (zs.length : Int)) (q : ∀ z : Nat, F z → Q (.int z) H) : rIX K (.ref p) (.int i) H Q := by
  refine ix_L hp (at_in h0 h1) ?_
  have hi : i.toNat < zs.length := by omega
  obtain ⟨z, a, e⟩ := ha zs[i.toNat] (List.getElem_mem hi)
  rw [e]
  exact q z a
/-! heaps -/
theorem same_upd {H : Hp} {p : Addr} {o : HO} (h : H p = none) : Same H (upd H p o) := fun b x e => by
  rw [upd_ne (ne_of_none e h)]
  exact e
theorem same_mut {R H : Hp} {p : Addr} {o : HO} (e : Same R H) (h : R p = none) : Same R (upd H p o) := fun a u ha => by
  rw [upd_ne (ne_of_none ha h)]
  exact e a u ha
theorem same_sqt {K : PySem.W.Frag} {H H' : Hp} {a : Addr} {xs : List V} (e : Same H H') (h : SqT K H a xs) : SqT K H' a xs := by
  rcases h with (h | ⟨o, h⟩) | h
  · exact .inl (.inl (e _ _ h))
  · exact .inl (.inr ⟨o, e _ _ h⟩)
  · exact .inr h
theorem same_new {R H : Hp} {p : Addr} {o : HO} (e : Same R H) (h : H p = none) : Same R (upd H p o) := e.trans (same_upd h)
theorem lst_of {K : PySem.W.Frag} {H : Hp} {a : Addr} {xs : List V} (h : H a = some (.lst xs)) : SqL K H a xs := .inl (.inl h)
theorem tup_of {K : PySem.W.Frag} {H : Hp} {a : Addr} {xs : List V} (h : H a = some (.tup xs)) : SqT K H a xs := .inl (.inl h)
mutual
theorem dp_mono {K : PySem.W.Frag} {H H' : Hp} (e : Same H H') : ∀ (d : PyData) (v : V), Dp K H v d → Dp K H' v d
  | _, _, .non => .non
  | _, _, .bl b => .bl b
  | _, _, .int i => .int i
  | _, _, .str x => .str x
  | .list ds, _, .lst h a => .lst (e.seq h) (dpAll_mono e ds _ a)
  | .tuple ds, _, .tup h a => .tup (same_sqt e h) (dpAll_mono e ds _ a)
theorem dpAll_mono {K : PySem.W.Frag} {H H' : Hp} (e : Same H H') : ∀ (ds : List PyData) (vs : List V), DpAll K H vs ds → DpAll K H' vs ds
  | _, _, .nil => .nil
  | d :: ds, v :: vs, .cons h t => .cons (dp_mono e d v h) (dpAll_mono e ds vs t)
end
theorem ne_new {H : Hp} {a p : Addr} {o : HO} (h : H a = some o) (hp : H p = none) : p ≠ a := fun e => by
  subst e
  rw [hp] at h
  cases h
end My

set_option Elab.async false
set_option linter.all false
set_option maxRecDepth 100000
set_option maxHeartbeats 400000
/-! ### data; isinstance; a comprehension over a range with a step -/
namespace My
open PySem PySem.Spec PyProof.Rows L2
def tyName : PyData → String
  | .none => "NoneType"
  | .bool _ => "bool"
  | .int _ => "int"
  | .str _ => "str"
  | .list _ => "list"
  | .tuple _ => "tuple"
  | .dict _ => "dict"
theorem tyx_l {K : PySem.W.Frag} {H : Hp} {a : Addr} {xs : List V} (h : SqL K H a xs) : TyX K H (.ref a) (.type "list") := by
  rcases h with (h | ⟨o, h⟩) | h
  · exact .base (.lst h)
  · exact .base (.frz h)
  · obtain ⟨o, its, n, h1, h2, _⟩ := h
    exact .kList h1 h2
theorem tyx_t {K : PySem.W.Frag} {H : Hp} {a : Addr} {xs : List V} (h : SqT K H a xs) : TyX K H (.ref a) (.type "tuple") := by
  rcases h with (h | ⟨o, h⟩) | h
  · exact .base (.tup h)
  · exact .fTuple h
  · obtain ⟨o, its, n, h1, h2, _⟩ := h
    exact .kTuple h1 h2
theorem tyx_d {K : PySem.W.Frag} {H : Hp} {x : V} {d : PyData} (h : Dp K H x d) : TyX K H x (.type (tyName d)) := by
  cases h with
  | non => exact .base .non
  | bl b => exact .base (.bl b)
  | int i => exact .base (.int i)
  | str z => exact .base (.str z)
  | lst h _ => exact tyx_l h
  | tup h _ => exact tyx_t h
section
variable {K : PySem.W.Frag} {H : Hp} {Q : VK} {x : V} {d : PyData}
theorem isi_d {n : String} {b : Bool} (h : Dp K H x d) (hb : kitB (tyName d) n = some b) (q : Q (.bl b) H) : rISI K [x, .ty n] H Q :=
  .inl ⟨x, .ty n, _, _, b, rfl, .ty n, tyx_d h, kit_ty hb, q⟩
theorem isi_d2 {n m : String} {p : Addr} {b : Bool} (h : Dp K H x d) (hp : H p = some (.tup [.ty n, .ty m])) {b1 b2 : Bool} (h1 : kitB (tyName d) n = some b1) (h2 : kitB (tyName d) m = some b2) (hb : b = (b1 || b2)) (q : Q (.bl b) H) : rISI K [x, .ref p] H Q := by
  refine .inr ⟨x, p, _, _, [.type n, .type m], b, rfl, hp, .cons (.ty n) (.cons (.ty m) .nil), tyx_d h, ?_, q⟩
  subst hb
  refine kitAny_cons (kit_ty h1) (fun e => ?_) (fun e => by rw [e]; rfl)
  rw [e, Bool.false_or]
  exact kitAny_cons (kit_ty h2) (fun e => by rw [e]; exact kitAny_nil) (fun e => e)
/-- the six answers of isinstance and is None -/
def kindsB (d : PyData) : List Bool := match d with
  | .none => [false, false, false, false, false, true]
  | .bool _ => [true, true, false, false, false, false]
  | .int _ => [false, true, false, false, false, false]
  | .str _ => [false, false, true, false, false, false]
  | .list _ => [false, false, false, false, true, false]
  | .tuple _ => [false, false, false, true, false, false]
  | .dict _ => []
/-- a list of booleans as data -/
theorem dp_bools {p : Addr} (bs : List Bool) (h : SqL K H p (bs.map V.bl)) : Dp K H (.ref p) (.list (bs.map PyData.bool)) := by
  refine .lst h ?_
  induction bs with
  | nil => exact .nil
  | cons b bs ih =>
    have ih' : DpAll K H (bs.map V.bl) (bs.map PyData.bool) := by
      clear ih h
      induction bs with
      | nil => exact .nil
      | cons c cs ih => exact .cons (.bl c) ih
    exact .cons (.bl b) ih'
theorem eqv_same {d : PyData} (h : SeqAt.shaped d = true) : PyData.eqv d d = true := by
  unfold SeqAt.shaped at h
  rw [Bool.and_eq_true] at h
  exact SeqAt.eqv_refl d h.1
theorem dpAll_get : ∀ {vs : List V} {ds : List PyData}, DpAll K H vs ds → ∀ {i : Nat} (hi : i < ds.length), ∃ v, vs[i]? = some v ∧ Dp K H v ds[i]
  | _, _, .nil, i, hi => absurd hi (Nat.not_lt_zero _)
  | _, _, .cons a b, 0, hi => ⟨_, rfl, a⟩
  | _, _, .cons a b, i + 1, hi => dpAll_get b (Nat.lt_of_succ_lt_succ hi)
theorem dpAll_len : ∀ {vs : List V} {ds : List PyData}, DpAll K H vs ds → vs.length = ds.length
  | _, _, .nil => rfl
  | _, _, .cons a b => by rw [List.length_cons, List.length_cons, dpAll_len b]
end
/-- a comprehension over range(a, b, c) -/
theorem lc_rangeC {lo c : Int} {n : Nat} {g : TG} {tt : TT} {te : TE} {vs : List Nat} {σ : L2.St} {H1 : Hp} {D : Addr} {Qd : Hp → Prop} (Pv : Nat → Hp → Prop) (h0 : Pv 0 (upd H1 D (.lst [])))
    (hs : ∀ i H, i < n → Pv i H → g (.int (lo + (i : Nat) * c)) (wipe σ vs) H fun σ2 H2 => wipe σ2 vs = wipe σ vs ∧ tt σ2 H2 fun b H3 =>
      if b = true then te σ2 H3 fun y H4 => ∃ acc, H4 D = some (.lst acc) ∧ acc.length < sizeLine ∧ Pv (i + 1) (upd H4 D (.lst (acc ++ [y]))) else Pv (i + 1) H3) (hd : ∀ H, Pv n H → Qd H) :
    ∃ W : Nat → Nat → Hp → Prop, (∃ m, W 0 m (upd H1 D (.lst []))) ∧ ∀ i m H, W i m H →
      ((Itc lo c n).stop i H ∧ Qd H) ∨ ((Itc lo c n).go i H ∧ ∃ Nx : Hp → Prop, (∀ H', Nx H' → ∃ m', m' < m ∧ W (i + 1) m' H') ∧ ∀ x H', (Itc lo c n).yld i H x H' → g x (wipe σ vs) H' fun σ2 H2 => wipe σ2 vs = wipe σ vs ∧ tt σ2 H2 fun b H3 =>
        if b = true then te σ2 H3 fun y H4 => ∃ acc, H4 D = some (.lst acc) ∧ acc.length < sizeLine ∧ Nx (upd H4 D (.lst (acc ++ [y]))) else Nx H3) := by
  refine ⟨fun i m H => m = n - i ∧ i ≤ n ∧ Pv i H, ⟨n, by simp, Nat.zero_le _, h0⟩, ?_⟩
  rintro i m H ⟨rfl, hi, p⟩
  by_cases hlt : i < n
  · refine .inr ⟨hlt, Pv (i + 1), fun H' p' => ⟨n - (i + 1), by omega, rfl, hlt, p'⟩, fun x H' y => ?_⟩
    obtain ⟨rfl, rfl⟩ := y
    exact hs i _ hlt p
  · have e : i = n := by omega
    subst e
    exact .inl ⟨Nat.le_refl _, hd H p⟩
theorem rsize_pos {m f : Nat} (h1 : 1 ≤ m) (hf : 1 ≤ f) : Builtin.Range.rangeSize 0 (m : Int) (f : Int) = (((m - 1) / f + 1 : Nat) : Int) := by
  unfold Builtin.Range.rangeSize
  rw [if_pos (by omega), if_pos (by omega), Int.sub_zero, show (m : Int) - 1 = ((m - 1 : Nat) : Int) by omega]
  rfl
theorem small_pos {m f : Nat} (h1 : 1 ≤ m) (h2 : m ≤ 1000000) (hf : 1 ≤ f) (hf2 : f ≤ 1000000) : Builtin.Range.small 0 (m : Int) (f : Int) = true := by
  unfold Builtin.Range.small
  rw [rsize_pos h1 hf]
  simp only [Builtin.Range.rangeFitsLong, Bool.and_eq_true, Bool.or_eq_true, decide_eq_true_eq, beq_iff_eq, show ((f : Int) > 0) by omega, if_true]
  have h3 := Nat.div_le_self (m - 1) f
  generalize (m - 1) / f = q at *
  omega
/-! one sign in figures -/
theorem lit_figs : ("0123456789" : Str) = S [48, 49, 50, 51, 52, 53, 54, 55, 56, 57] := rfl
theorem find_fig (c : Nat) : Txt.find (S [48, 49, 50, 51, 52, 53, 54, 55, 56, 57]) (S [c]) = if 48 ≤ c ∧ c ≤ 57 then ((c - 48 : Nat) : Int) else -1 := by
  by_cases h : 48 ≤ c ∧ c ≤ 57
  · rw [if_pos h]
    have h2 : ∀ k : _root_.Fin 10, Txt.find (S [48, 49, 50, 51, 52, 53, 54, 55, 56, 57]) (S [48 + k.val]) = (k.val : Int) := by decide +kernel
    have e := h2 ⟨c - 48, by omega⟩
    rw [show 48 + (c - 48) = c by omega] at e
    exact e
  · rw [if_neg h]
    have e := SX.in_one [48, 49, 50, 51, 52, 53, 54, 55, 56, 57] c
    have h3 : decide (c ∈ [48, 49, 50, 51, 52, 53, 54, 55, 56, 57]) = false := decide_eq_false fun hm => h (by
      simp only [List.mem_cons, List.not_mem_nil, or_false] at hm
      omega)
    rw [h3, Bool.not_eq_false'] at e
    unfold Txt.find
    rw [List.isEmpty_iff] at e
    show (match Builtin.Str.occurrences (SX.S _) (SX.S [c]) 0 (SX.S _).length 1 with | i :: _ => (i : Int) | [] => -1) = -1
    rw [e]
/-! figures of a number -/
def figs : Nat → Nat → List Nat
  | 0, _ => []
  | w + 1, n => figs w (n / 10) ++ [48 + n % 10]
theorem figs_len : ∀ w n, (figs w n).length = w
  | 0, _ => rfl
  | w + 1, n => by rw [figs, List.length_append, figs_len w]; rfl
theorem digitChar_nat {n : Nat} (h : n < 10) : n.digitChar.toNat = 48 + n := by
  have h2 : ∀ k : _root_.Fin 10, k.val.digitChar.toNat = 48 + k.val := by decide
  exact h2 ⟨n, h⟩
theorem toDigits_len10 {w n : Nat} (h : n < 10 ^ w) (hw : 0 < w) : (Nat.toDigits 10 n).length ≤ w := by
  have h1 := (Nat.length_repr_le_iff (n := n) (k := w) hw).mpr h
  rwa [← String.length_toList, Nat.toList_repr] at h1
def pad (w n : Nat) : List Nat := List.replicate (w - (Nat.toDigits 10 n).length) 48 ++ (Nat.toDigits 10 n).map Char.toNat
theorem zpad_S (w n : Nat) : zpad w (n : Int) = S (pad w n) := rfl
theorem figs_zero : ∀ w, figs w 0 = List.replicate w 48
  | 0 => rfl
  | w + 1 => by
    rw [figs, Nat.zero_div, Nat.zero_mod, figs_zero w, List.replicate_succ']
theorem pad_figs : ∀ (w n : Nat), n < 10 ^ w → 0 < w → pad w n = figs w n
  | 0, _, _, h => absurd h (Nat.lt_irrefl _)
  | w + 1, n, h, _ => by
    by_cases hn : n < 10
    · unfold pad
      rw [Nat.toDigits_of_lt_base hn]
      show List.replicate (w + 1 - 1) 48 ++ [n.digitChar.toNat] = figs (w + 1) n
      rw [figs, digitChar_nat hn, Nat.div_eq_of_lt hn, Nat.mod_eq_of_lt hn, figs_zero]
      rfl
    · have hw : 0 < w := by
        rcases Nat.eq_zero_or_pos w with e | e
        · subst e
          simp at h
          omega
        · exact e
      have h2 : n / 10 < 10 ^ w := by
        rw [Nat.div_lt_iff_lt_mul (by decide)]
        rwa [Nat.pow_succ] at h
      have ih := pad_figs w (n / 10) h2 hw
      have hl := toDigits_len10 h2 hw
      rw [figs, ← ih]
      unfold pad
      rw [Nat.toDigits_of_base_le (by decide) (by omega), List.length_append, List.map_append, ← List.append_assoc]
      show List.replicate (w + 1 - ((Nat.toDigits 10 (n / 10)).length + 1)) 48 ++ _ ++ [(n % 10).digitChar.toNat] = _
      rw [digitChar_nat (Nat.mod_lt _ (by decide)), show w + 1 - ((Nat.toDigits 10 (n / 10)).length + 1) = w - (Nat.toDigits 10 (n / 10)).length by omega]
theorem figs_isD : ∀ w n, isD (figs w n) = true
  | 0, _ => rfl
  | w + 1, n => by
    show List.all (figs (w + 1) n) _ = true
    rw [figs, List.all_append]
    have e : (figs w (n / 10)).all (fun c => decide (48 ≤ c) && decide (c ≤ 57)) = true := figs_isD w (n / 10)
    rw [e, Bool.true_and]
    have := Nat.mod_lt n (show 10 > 0 by decide)
    simp
    omega
theorem digitsVal_snoc (a : List Nat) (c : Nat) : NumText.digitsVal (a ++ [c]) = NumText.digitsVal a * 10 + (c - 48) := by
  unfold NumText.digitsVal
  rw [List.foldl_append]
  rfl
theorem digitsVal_figs : ∀ w n, n < 10 ^ w → NumText.digitsVal (figs w n) = n
  | 0, n, h => by
    have : n = 0 := by simpa using h
    subst this
    rfl
  | w + 1, n, h => by
    rw [figs, digitsVal_snoc, digitsVal_figs w (n / 10) (by rw [Nat.div_lt_iff_lt_mul (by decide)]; rwa [Nat.pow_succ] at h)]
    omega
theorem isD_isT {l : List Nat} (h : isD l = true) : isT l = true := isT_of fun c hc => by
  have z := List.all_eq_true.mp h c hc
  rw [Bool.and_eq_true, decide_eq_true_eq, decide_eq_true_eq] at z
  omega
end My

set_option Elab.async false
set_option linter.all false
set_option maxRecDepth 100000
set_option maxHeartbeats 400000
/-! ### the greatest, with one for none; noughts ahead -/
namespace My
open PySem PySem.Spec PyProof.Rows L2
theorem maxOf_int (x : Int) : ∀ xs : List Int, PySem.W.maxOf x xs ∈ x :: xs ∧ ∀ y ∈ x :: xs, y ≤ PySem.W.maxOf x xs := by
  intro xs
  unfold PySem.W.maxOf
  induction xs generalizing x with
  | nil => exact ⟨List.mem_singleton.mpr rfl, fun y hy => by rw [List.mem_singleton.mp hy]; exact Int.le_refl _⟩
  | cons z zs ih =>
    rw [List.foldl_cons]
    have e : PySem.W.DatumOrd.lt x z = decide (x < z) := rfl
    rw [e]
    by_cases h : x < z
    · rw [if_pos (decide_eq_true h)]
      obtain ⟨h1, h2⟩ := ih z
      refine ⟨List.mem_cons_of_mem _ h1, fun y hy => ?_⟩
      rcases List.mem_cons.mp hy with rfl | hy
      · exact Int.le_trans (Int.le_of_lt h) (h2 z (List.mem_cons_self ..))
      · exact h2 y hy
    · rw [if_neg (by rw [decide_eq_false h]; decide)]
      obtain ⟨h1, h2⟩ := ih x
      refine ⟨?_, fun y hy => ?_⟩
      · rcases List.mem_cons.mp h1 with h1 | h1
        · rw [h1]; exact List.mem_cons_self ..
        · exact List.mem_cons_of_mem _ (List.mem_cons_of_mem _ h1)
      · rcases List.mem_cons.mp hy with rfl | hy
        · exact h2 _ (List.mem_cons_self ..)
        · rcases List.mem_cons.mp hy with rfl | hy
          · exact Int.le_trans (by omega) (h2 x (List.mem_cons_self ..))
          · exact h2 y (List.mem_cons_of_mem _ hy)
section
variable {X : Cx}
def rMAXD (K : PySem.W.Frag) : List V → List V → Hp → VK → Prop := fun xs zs H Q => ∃ (a : Addr) (ns : List Int) (d : V), xs = [.ref a] ∧ zs = [d] ∧ SqL K H a (ns.map V.int) ∧ (ns = [] → Q d H) ∧ ∀ m, m ∈ ns → (∀ y, y ∈ ns → y ≤ m) → Q (.int m) H
theorem call_MAXD (hc : X.calm = true) (hu : X.A.units + 64 < cLine) : CallRK X (.builtin "max") ["default"] (rMAXD X.K) := by
  intro pins s σ H xs zs us ws Q I rx rz h
  obtain ⟨a, ns, d, rfl, rfl, hs, q0, q⟩ := h
  obtain ⟨its, rv, hl, _⟩ := I.list hs
  rw [Vals.ref1 rx]
  cases rz with
  | cons r1 r2 =>
    cases r2
    rename_i w
    have hi : IntsAre its ns := rv.ints
    refine PySem.W.max_list_datum_default (xs := ns) (I.ok.hd hc) hl.isList ?_ ?_ (fun e h' tk hk => ⟨d, H, I.kept hk, r1, q0 e⟩) fun y ys i v h' tk e hv hh hk => ?_
    · rw [List.toList_toArray]
      exact PySem.W.HoldAll.of_ints hi
    · show X.A.units + 1 + 0 < cLine
      omega
    · subst e
      obtain ⟨m1, m2⟩ := maxOf_int y ys
      obtain ⟨as, hr⟩ := hh
      have hr' : Reads h' v (.int (PySem.W.maxOf y ys)) as := hr
      cases hr' with
      | int _ t => exact ⟨.int _, H, I.kept hk, ⟨t, rfl⟩, q _ m1 m2⟩
end
end My
namespace PySem
open Builtin Builtin.Str Builtin.Int
theorem my_gives_rjust3 (x : Str) (i : Int) (c : Nat) (t u v : Tok) (hr : (decide (i < -(2 ^ 63 : Int)) || decide (i ≥ 2 ^ 63)) = false) (hl : tooLong i.toNat = false) :
    Gives («str.rjust» ⟨[.str x t, .int i u, .str ⟨#[c]⟩ v], []⟩) (if i ≤ x.length then .val (.str x t) else .str (padded x (i.toNat - x.length) 0 c)) := by
  show Gives (do
             let width ← asSsize s!"str.{"rjust"}" (.int i u)
             if width ≤ x.length then (do rule s!"str.{"rjust"}.long-enough"; ret (.str x t)) else
             if tooLong width.toNat = true then unsupported s!"str.{"rjust"}:memory" else retStr (padded x (width.toNat - x.length) 0 c)) _
  rw [asSsize_int _ _ _ hr]
  show Gives (if i ≤ x.length then (do rule s!"str.{"rjust"}.long-enough"; ret (.str x t)) else if tooLong i.toNat = true then unsupported s!"str.{"rjust"}:memory" else retStr (padded x (i.toNat - x.length) 0 c)) _
  rw [hl]
  by_cases h : i ≤ (x.length : Int)
  · rw [if_pos h, if_pos h]; exact .rule (.of_eq rfl)
  · rw [if_neg h, if_neg h]; exact .of_eq rfl
def myRjust (x : Str) (i : Int) (c : Nat) : Str := if i ≤ x.length then x else padded x (i.toNat - x.length) 0 c
theorem my_rjust3 {prog : Program} {w : World} {A : Around} {E : Value → Shared → Prop} {s : Shared} {Q : Value → Shared → Prop} {x : Str} {t : Tok} {i : Int} {c : Nat} {u v : Tok} (hp : PadOk i = true) (hq : ∀ t' k, Q (.str (myRjust x i c) t') { s with toks := k }) : wpAny (model prog w) A (call (.builtin "str.rjust") [.str x t, .int i u, .str ⟨#[c]⟩ v]) Q E s :=
  call_gives F.slot_str_rjust (typeIs_str _ _ _) F.entry_str_rjust (F.args_str_rjust_3 _ _ _) (my_gives_rjust3 x i c t u v (PadOk.parts hp).1 (PadOk.parts hp).2) (post_val_or_made (fits_padL c (PadOk.parts hp).2) hq)
end PySem
namespace My
open PySem PySem.Spec PyProof.Rows L2
section
variable {X : Cx}
def rM_rjust2 : V → List V → Hp → VK → Prop := fun x xs H Q => ∃ (a : Str) (i : Int) (c : Nat), x = .str a ∧ xs = [.int i, .str ⟨#[c]⟩] ∧ PadOk i = true ∧ Q (.str (myRjust a i c)) H
theorem mt_RJUST2 : MtR X "str.rjust" rM_rjust2 := by
  intro pins s σ H x xs v us Q I rx rs h
  obtain ⟨a, i, c, rfl, rfl, hc, h⟩ := h
  obtain ⟨t, rfl⟩ := rx
  cases rs with
  | cons r1 rs =>
    cases rs with
    | cons r2 rs =>
      cases rs
      obtain ⟨u, rfl⟩ := r1
      obtain ⟨z, rfl⟩ := r2
      exact my_rjust3 hc fun t' k => ⟨.str (myRjust a i c), H, I.tok k, ⟨t', rfl⟩, h⟩
end
theorem rj_S (l : List Nat) (w c : Nat) : myRjust (S l) (w : Int) c = S (List.replicate (w - l.length) c ++ l) := by
  unfold myRjust
  rw [S_len]
  by_cases h : (w : Int) ≤ l.length
  · rw [if_pos h, show w - l.length = 0 by omega]
    rfl
  · rw [if_neg h]
    unfold Builtin.Str.padded
    show (⟨_⟩ : Str) = ⟨_⟩
    congr 1
    apply Array.ext'
    simp
theorem numL_eq (n : Nat) : TL.numL n = (Nat.toDigits 10 n).map Char.toNat := by
  unfold TL.numL
  simp
theorem rj_num (n : Nat) : myRjust (Str.ofString (toString (n : Int))) 6 48 = S (pad 6 n) := by
  rw [SX.num_S]
  have e := rj_S (TL.numL n) 6 48
  rw [numL_eq, List.length_map] at e
  rw [numL_eq]
  exact e
end My

set_option Elab.async false
set_option linter.all false
set_option maxRecDepth 100000
set_option maxHeartbeats 400000
/-! ### unpacking, slices of lists and tuples, appending -/
namespace My
open PySem PySem.Spec PyProof.Rows L2
section
variable {K : PySem.W.Frag} {H : Hp} {Q : VK} {σ : L2.St} {v x : V} {r : List V}
theorem x_gc {t : TG} {u : TGs} {N : L2.St → Hp → Prop} (h : t v σ H fun σ' H' => u r σ' H' N) : gCons t u (v :: r) σ H N := ⟨v, r, rfl, h⟩
theorem x_gz {N : L2.St → Hp → Prop} (h : N σ H) : gNil [] σ H N := ⟨rfl, h⟩
theorem gt_T {a : Addr} {xs : List V} {n : Nat} {t : TGs} {N : L2.St → Hp → Prop} (hs : SqT K H a xs) (hl : xs.length = n) (h : t xs σ H N) : gTup K n t (.ref a) σ H N := ⟨a, xs, rfl, hs, hl, h⟩
theorem x_ckw {rr : List V → List V → Hp → VK → Prop} {ta tk : TA} (h : ta σ H fun vs H1 => tk σ H1 fun zs H2 => rr vs zs H2 Q) : tCKw rr ta tk σ H Q := h
theorem ap_L {p : Addr} {xs : List V} {y : V} (hp : H p = some (.lst xs)) (hl : xs.length ≤ 1000000) (h : Q .non (upd H p (.lst (xs ++ [y])))) : rAppend (.ref p) [y] H Q := ⟨p, xs, y, rfl, rfl, hp, Nat.lt_of_le_of_lt hl (by decide), h⟩
theorem cutV_mid (xs : List V) (a b : Nat) : cutV xs (some (a : Int)) (some (b : Int)) = (xs.take b).drop a := by
  unfold cutV
  rw [HT.sIx_nat, HT.sIx_nat, List.drop_take]
  rcases Nat.le_total a xs.length with h | h
  · rw [Nat.min_eq_left h]
    rcases Nat.le_total b xs.length with h2 | h2
    · rw [Nat.min_eq_left h2]
    · rw [Nat.min_eq_right h2, List.take_of_length_le (by rw [List.length_drop]; exact Nat.le_refl _), List.take_of_length_le (by rw [List.length_drop]; omega)]
  · rw [Nat.min_eq_right h, List.drop_eq_nil_of_le h]
    simp
theorem cutV_from (xs : List V) (a : Nat) : cutV xs (some (a : Int)) none = xs.drop a := by
  unfold cutV
  rw [HT.sIx_nat, HT.sIx_none]
  rcases Nat.le_total a xs.length with h | h
  · rw [Nat.min_eq_left h]
    exact List.take_of_length_le (by rw [List.length_drop]; exact Nat.le_refl _)
  · rw [Nat.min_eq_right h, List.drop_eq_nil_of_le h]
    simp
theorem cutV_to (xs : List V) (b : Nat) : cutV xs none (some (b : Int)) = xs.take b := by
  unfold cutV
  rw [HT.sIx_nat, HT.sIx_none, List.drop_zero, Nat.sub_zero]
  rcases Nat.le_total b xs.length with h | h
  · rw [Nat.min_eq_left h]
  · rw [Nat.min_eq_right h, List.take_of_length_le (Nat.le_refl _), List.take_of_length_le h]
theorem sl_T {a : Addr} {xs : List V} {lo hi : Option Int} (hs : SqT K H a xs) (h : ∀ p H', Same H H' → SqT K H' p (cutV xs lo hi) → Q (.ref p) H') : rSL K (.ref a) lo hi H Q := by
  refine .inr (.inr ⟨a, xs, rfl, hs, fun e => ?_, fun _ p hp => h p _ (same_upd hp) (tup_of upd_same)⟩)
  refine h a H (Same.refl H) ?_
  have e2 : cutV xs lo hi = xs := by
    unfold cutV
    rw [e.1, e.2, List.drop_zero, Nat.sub_zero, List.take_of_length_le (Nat.le_refl _)]
  rw [e2]
  exact hs
theorem sl_any {l : List Nat} {lo hi : Option Int} (hl : l.length ≤ 1000000) (hT : isT l = true) (q : ∀ l', l'.length ≤ l.length → isT l' = true → Q (.str (S l')) H) : rSL K (.str (S l)) lo hi H Q := by
  refine sl_S (by rw [S_len]; exact big_line hl) ?_
  unfold cutS
  rw [S_cps]
  refine q _ ?_ (isT_take _ (isT_drop _ hT))
  rw [List.length_take, List.length_drop]
  omega
theorem mx_L {a : Addr} {ns : List Int} (hs : SqL K H a (ns.map V.int)) (h0 : 0 < ns.length) (q : ∀ m, m ∈ ns → (∀ y, y ∈ ns → y ≤ m) → Q (.int m) H) : rMax K [.ref a] H Q := ⟨a, ns, rfl, hs, h0, q⟩
theorem mxd_L {a : Addr} {ns : List Int} {d : V} (hs : SqL K H a (ns.map V.int)) (h0 : ns = [] → Q d H) (q : ∀ m, m ∈ ns → (∀ y, y ∈ ns → y ≤ m) → Q (.int m) H) : rMAXD K [.ref a] [d] H Q := ⟨a, ns, d, rfl, rfl, hs, h0, q⟩
theorem tu_L {a : Addr} {xs : List V} (hs : SqL K H a xs) (h : ∀ l, H l = none → Q (.ref l) (upd H l (.tup xs))) : rTUPLE K [.ref a] H Q := ⟨a, xs, rfl, .inl ⟨hs, h⟩⟩
end
end My

set_option Elab.async false
set_option linter.all false
set_option maxRecDepth 100000
set_option maxHeartbeats 400000
/-! ### small letters; the least of a list -/
namespace My
open PySem PySem.Spec PyProof.Rows L2
def rM_lower : V → List V → Hp → VK → Prop := fun x xs H Q => ∃ a, x = .str a ∧ xs = [] ∧ a.length ≤ 5592405 ∧ Q (.str (Txt.lower a)) H
theorem lo1_T {c : Nat} (h0 : 32 ≤ c) (h1 : c ≤ 126) : 32 ≤ lo1 c ∧ lo1 c ≤ 126 := by
  have h2 : ∀ c : _root_.Fin 127, 32 ≤ c.val → 32 ≤ lo1 c.val ∧ lo1 c.val ≤ 126 := by decide +kernel
  exact h2 ⟨c, by omega⟩ h0
theorem lw_S {H : Hp} {Q : VK} {l : List Nat} (hl : l.length ≤ 1000000) (hT : isT l = true) (q : ∀ l' : List Nat, l'.length = l.length → isT l' = true → Q (.str (S l')) H) : rM_lower (.str (S l)) [] H Q := by
  refine ⟨S l, rfl, rfl, by rw [S_len]; omega, ?_⟩
  have e : Txt.lower (S l) = S (l.map lo1) := SX.lower_S (List.all_eq_true.mpr fun c hc => decide_eq_true (by have := isT_mem hT hc; omega))
  rw [e]
  refine q _ (List.length_map ..) (isT_of fun c hc => ?_)
  obtain ⟨d, hd, rfl⟩ := List.mem_map.mp hc
  have := isT_mem hT hd
  exact lo1_T this.1 this.2
theorem lcS_mk {H : Hp} {Q : VK} {σ : L2.St} {g : TG} {t : TT} {te : TE} {ws : List Nat} {l : List Nat} (Pv : Addr → Nat → Hp → Prop) (h0 : ∀ D, H D = none → Pv D 0 (upd H D (.lst [])))
    (hs : ∀ D i c H', H D = none → l[i]? = some c → Pv D i H' → g (.str (S [c])) (wipe σ ws) H' fun σ2 H2 => wipe σ2 ws = wipe σ ws ∧ t σ2 H2 fun b H3 => if b = true then te σ2 H3 fun y H4 => ∃ acc, H4 D = some (.lst acc) ∧ acc.length < sizeLine ∧ Pv D (i + 1) (upd H4 D (.lst (acc ++ [y]))) else Pv D (i + 1) H3)
    (hd : ∀ D H', H D = none → Pv D l.length H' → Q (.ref D) H') : LcS g t te ws σ Q (.str (S l)) H := by
  refine ⟨S l, rfl, fun D hD => ⟨fun i m H' => m = l.length - i ∧ i ≤ l.length ∧ Pv D i H', ⟨l.length, by simp, Nat.zero_le _, h0 D hD⟩, ?_⟩⟩
  rintro i m H' ⟨rfl, hi, p⟩
  have hsz : (S l).cps.size = l.length := rfl
  by_cases hlt : i < l.length
  · refine .inr ⟨by show i < (S l).cps.size; rw [hsz]; exact hlt, Pv D (i + 1), fun H2 p' => ⟨l.length - (i + 1), by omega, rfl, hlt, p'⟩, fun x H2 y => ?_⟩
    obtain ⟨rfl, c, hc, rfl⟩ := y
    refine hs D i c _ hD ?_ p
    have e : (S l).cps = l.toArray := rfl
    rw [e] at hc
    simpa using hc
  · have e : i = l.length := by omega
    subst e
    exact .inl ⟨by show (S l).cps.size ≤ l.length; rw [hsz]; exact Nat.le_refl _, hd D H' hD p⟩
section
variable {K : PySem.W.Frag} {H : Hp} {Q : VK}
theorem mn_L {a : Addr} {ns : List Int} (hs : SqL K H a (ns.map V.int)) (h0 : 0 < ns.length) (q : ∀ m, m ∈ ns → (∀ y, y ∈ ns → m ≤ y) → Q (.int m) H) : rMin K [.ref a] H Q := ⟨a, ns, rfl, hs, h0, q⟩
end
end My

set_option Elab.async false
set_option linter.all false
set_option maxRecDepth 100000
set_option maxHeartbeats 1000000
/-! ### raised and caught; tokens; texts exchanged in texts -/
namespace My
open PySem PySem.Spec PyProof.Rows L2
/-! #### raise, try -/
/-- an error of a class without fields leaves -/
def tRaise (c : Value) (E : XK) : TS := fun _ _ H => E c none H
/-- inside a try -/
def tRaiseW (c : Value) (W : WX) : TS := fun _ σ H => W c none σ H
def tTry (K : PySem.W.Frag) (Wout : WX) (l : List (Value × (Addr → Value → Option Addr → TS))) (tb : WX → TS) : TS := fun D σ H => tb (wMany K Wout D l) D σ H
def W0 : WX := fun _ _ _ _ => False
section
variable {X : Cx} {C : Addr}
theorem ps_raiseE {x m : Str} {j : Nat} {p p2 pos pos2 : Pos} {bmB : List Value} {B newId initId : String} {E : XK} (hc : X.calm = true) (tk : Takes X (fun cls d _ H => E cls d H)) (F : ExcBaseFacts B newId initId bmB) (q : PySem.W.excIn X.K C bmB newId = true) (gC : X.mg x = some (.ref C)) (kC : PySem.W.keepIn X.K (.ref C) = true) (r : Raises X (.ref C)) (hg : Gl X x)
    (hdb : (x == ("__debug__" : Str)) = false := by decide) : PS X (.Raise (some (.Call (.Name x p) [.Constant (.str m) j p2] [] pos)) none pos2) (tRaise (.ref C) E) := ps_raise hc tk (pmk_own F q gC kC r hg hdb)
theorem ps_tryM {body : List Stmt} {h₀ : ExceptHandler} {hds : List ExceptHandler} {l : List (Value × (Addr → Value → Option Addr → TS))} {pos : Pos} {tb : WX → TS} {Wout : WX} (hs : X.stack = X.env :: X.outer) (hf : X.env.frame = some X.env.locals) (tk : Takes X Wout)
    (hb : ∀ (W : WX) (pn : List (Addr × Obj)) (xe : Value → Shared → Prop), Takes (X.tr pn xe) W → PassesOwn (model X.prog X.w) X.A X.env xe → PSs (X.tr pn xe) body (tb W))
    (hh : HdsOk X (h₀ :: hds) l) : PS X (.Try body (h₀ :: hds) [] [] pos) (tTry X.K Wout l tb) := ps_try_many hs hf tk hb hh
/-- what a callee lets out, the def lets out -/
theorem passT {E : XK} (tk : Takes X (fun cls d _ H => E cls d H)) : Passes (L2.CX X.prog X.w) X E := fun pins σ H s e s' I c => passAt tk σ pins H s e s' I c
end
/-! #### tokens: a def that is run where a text has been written -/
structure FnT (P : Program) (w : World) (K : PySem.W.Frag) (mg : Str → Option Value) (base : Heap) (CX : CXT) (k : Nat) (f : Addr) (fd : FuncData) (ps : List Str) (sp : Sp) : Prop where
  len : ∀ vs H Q E, sp vs H Q E → vs.length = ps.length
  run : ∀ (A : Around) (outer : List Env) (s : Shared) (H : Hp) (args : Args) (us : List Value) (vs : List V) (Q : VK) (E : XK), 1 ≤ s.toks → Room k A → Env0 P w K mg base A outer s H → BindsTo s fd args (ps.zip us) → Vals vs us → sp vs H Q E →
    codeAny (model P w) A (.call (.ref f) args) (CR CX outer P w H s Q E) s
theorem FnT.mono {P : Program} {w : World} {K : PySem.W.Frag} {mg : Str → Option Value} {base : Heap} {CX : CXT} {j k : Nat} {f : Addr} {fd : FuncData} {ps : List Str} {sp : Sp} (F : FnT P w K mg base CX j f fd ps sp) (h : j ≤ k) :
    FnT P w K mg base CX k f fd ps sp := ⟨F.len, fun A outer s H args us vs Q E h0 hr => F.run A outer s H args us vs Q E h0 (hr.mono h)⟩
theorem fnT_of {CX : CXT} {P : Program} {w : World} {K : PySem.W.Frag} {mg : Str → Option Value} {base : Heap} {k : Nat} {f : Addr} {name qual : Str} {params : Arguments} {body : List Stmt} {scope : Scope} {dV kV doc pm cdv ct oc : Value} {an od : Option Addr}
    {osl : Array (Option Value)} {N ps : List Str} {sp : Sp} (lk : K.lookup f = some ⟨oc, od, .func (PySem.W.fnOf name qual params body scope dV kV doc pm an cdv ct), osl⟩) (hcd : PySem.W.codeIn K cdv qual = true) (S : FnScope N ps scope)
    (len : ∀ vs H Q E, sp vs H Q E → vs.length = ps.length)
    (hbody : ∀ (A : Around) (outer : List Env) (s : Shared) (H : Hp) (vs : List V) (Q : VK) (E : XK), Room k (A.deeper (envOfC qual scope s.heap.objs.size f cdv)) → sp vs H Q E →
      ∃ t, PSsT (cxOf CX P w K mg base N qual scope f cdv A outer s H E) body t ∧ t { nx := fun _ H' => Q .non H', rt := Q } (start N vs) H) :
    FnT P w K mg base CX (k + 1) f (PySem.W.fnOf name qual params body scope dV kV doc pm an cdv ct) ps sp := by
  refine ⟨len, fun A outer s H args us vs Q E h0 hr e0 hb r hsp => ?_⟩
  have hl := len _ _ _ _ hsp
  have KX : K.In s.heap := e0.mod.kin.keeps fun b o e => (e0.bs b o e).1
  have lim : s.heap.NoLimit := e0.mod.nolimit.keeps fun b o e => (e0.bs b o e).1
  have hkind : ∀ y ∈ ps.zip us, scope.names.lookup y.1 = some .local ∨ (scope.names.lookup y.1 = some .cell ∧ ((cellsFrom (s.heap.objs.size + 1) scope.names []).lookup y.1).isSome = true) := fun ⟨n, v⟩ hy => by
    rcases S.par n (List.of_mem_zip hy).1 with q | q
    · exact .inl q
    · exact .inr ⟨q, PySem.W.cellsFrom_some _ _ _ (.inl q)⟩
  refine codeAny_call_function hr.depth (KX _ _ lk) rfl S.co S.gen rfl (PySem.W.codeRec_of KX hcd) (hb _ _ _ _ ?_)
  refine wpAny_with_toks h0 (wpAny_newFunctionEnv_cells S.kind hkind fun env he s1 x => ?_)
  intro h1
  subst he
  refine ⟨lim.keeps x.toInCall.keep, codeAny_func ?_⟩
  obtain ⟨t, ht, hq⟩ := hbody A outer s H vs Q E (hr.deeper _) hsp
  have I : Inv (cxOf CX P w K mg base N qual scope f cdv A outer s H E) [] (start N vs) H s1 := inv_start S hr.hd e0 hl r x
  refine wpAny_mono (ht [] s1 (start N vs) H _ h1 I hq) (fun fl s' hs => ?_) fun e s' hs => hs
  have fin : ∀ {σ' : L2.St} {H' : Hp} {v : V} {u : Value}, Inv (cxOf CX P w K mg base N qual scope f cdv A outer s H E) [] σ' H' s' → RelV v u → Q v H' → CE outer P w H s Q u s' :=
    fun {σ' H' v u} J rv q => ⟨v, H', J.os, J.bare, J.base, J.hok, rv, q⟩
  cases fl with
  | ret u =>
    obtain ⟨v, σ', H', J, rv, q⟩ := hs
    exact fin J rv q
  | next =>
    obtain ⟨σ', H', J, q⟩ := hs
    exact fin (v := V.non) (u := Value.none) J rfl q
  | brk =>
    obtain ⟨_, _, _, q⟩ := hs
    exact False.elim q
  | cont =>
    obtain ⟨_, _, _, q⟩ := hs
    exact False.elim q
theorem Fun.okT {P : Program} {w : World} {K : PySem.W.Frag} {mg : Str → Option Value} {base : Heap} {x qual : Str} {st : Stmt} {f : Addr} {fd : FuncData} {N ps : List Str} {k : Nat} {sp : Sp} (F : L2.Fun K x qual st f fd) (S : FnScope N ps (defScope st)) (len : ∀ vs H Q E, sp vs H Q E → vs.length = ps.length)
    (hbody : ∀ (cdv : Value) (A : Around) (outer : List Env) (s : Shared) (H : Hp) (vs : List V) (Q : VK) (E : XK), Room k (A.deeper (envOfC qual (defScope st) s.heap.objs.size f cdv)) → sp vs H Q E →
      ∃ t, PSsT (cxOf CX0 P w K mg base N qual (defScope st) f cdv A outer s H E) (defBody st) t ∧ t { nx := fun _ H' => Q .non H', rt := Q } (start N vs) H) : FnT P w K mg base CX0 (k + 1) f fd ps sp := by
  obtain ⟨oc, od, kV, doc, pm, an, cdv, ct, osl, rfl, lk, hcd⟩ := F.ex
  exact fnT_of lk hcd S len fun A outer s H vs Q E hr hsp => hbody cdv A outer s H vs Q E hr hsp
section
variable {X : Cx} {CX : CXT} {k : Nat} {f : Addr} {fd : FuncData} {ps : List Str} {sp : Sp} {E : XK} {x m : Str} {p pos apos : Pos} {e o : Expr} {es : List Expr} {ta to te tb : TE} {t : TA} {st : Stmt} {rest : List Stmt} {u v : TS}
theorem PET.of (h : PE X e te) : PET X e te := fun pins s σ H Q _ I q => h.run pins s σ H Q I q
theorem PAT.of (h : PA X es t) : PAT X es t := fun pos pins s σ H Q _ I q => h.run pos pins s σ H Q I q
theorem run_fnT {pins : List (Addr × Obj)} {σ : L2.St} {H : Hp} {s : Shared} {Q : VK} {us : List Value} {vs : List V} (F : FnT X.prog X.w X.K X.mg X.base CX k f fd ps sp) (h0 : 1 ≤ s.toks) (hr : Room k X.A) (hb : Binds X.K fd ps []) (hx : Passes CX X E)
    (I : Inv X pins σ H s) (r : Vals vs us) (h : sp vs H Q E) : wpAny (model X.prog X.w) X.A (call (.ref f) us) (EP X pins σ Q) X.xe s := by
  have hl : us.length = ps.length := by rw [← r.length]; exact F.len _ _ _ _ h
  have b := hb s us I.kIn (by rw [List.append_nil]; exact hl)
  rw [List.append_nil] at b
  refine wpAny_call (codeAny_mono (F.run X.A X.stack s H ⟨us, []⟩ us vs Q E h0 hr I.env0 b r h) fun r s' hq => ?_)
  cases r with
  | error e => exact hx pins σ H s e s' I hq
  | ok fl =>
    cases fl with
    | ret u => exact I.after hq
    | next => exact False.elim hq
    | brk => exact False.elim hq
    | cont => exact False.elim hq
theorem pe_callT (F : FnT X.prog X.w X.K X.mg X.base CX k f fd ps sp) (hr : Room k X.A) (hg : Gl X x) (hm : X.mg x = some (.ref f)) (hk : PySem.W.keepIn X.K (.ref f) = true) (hb : Binds X.K fd ps []) (hx : Passes CX X E)
    (ha : PA X (e :: es) t) (hdb : (x == ("__debug__" : Str)) = false := by decide) (he : starEach (e :: es) X.env = (false, eval e X.env) :: starEach es X.env := by rfl) (hpl : (backTo pos (starEach es X.env)).any (·.1) = false := by rfl) :
    PET X (.Call (.Name x p) (e :: es) [] pos) (tCall sp [] E t) := by
  intro pins s σ H Q h0 I h
  refine wpAny_Call_Name_kw (ld_glob I hg hm ?_ hdb)
  refine PySem.W.callWith_K (h₀ := X.base) I.ok.mod.kin hk (wpAny_mono (wpAny_toks_of h0 (ha.run pos pins s σ H _ I h)) (fun us s1 ⟨h1, vs, H1, I1, r, q⟩ => ⟨I1.kIn, ?_⟩) fun _ _ z => z.2) he hpl
  have q' : sp vs H1 Q E := by
    have e : vs ++ [] = vs := List.append_nil vs
    have q2 : sp (vs ++ []) H1 Q E := q
    rw [e] at q2
    exact q2
  exact run_fnT F h1 hr hb hx I1 r q'
/-- a written text on the left -/
theorem pe_opK {c : Str} {j : Nat} {cp : Pos} {op : Operator} {r : R2} {b : Expr} (ho : OpR X (binaryOp op) r) (hb : PET X b tb) : PE X (.BinOp (.Constant (.str c) j cp) op b pos) (tOp r (tC (.str c)) tb) := by
  refine ⟨fun pins s σ H Q I h => ?_⟩
  refine wpAny_BinOp (Calls.Constant_str ?_)
  refine thn (hb pins { s with toks := s.toks + 1 } σ H _ (Nat.le_add_left _ _) (I.tok _) h) fun u s2 ⟨y, H2, I2, ry, q⟩ => ?_
  exact ho pins s2 σ H2 (.str c) y _ u Q I2 ⟨_, rfl⟩ ry q
theorem pet_op {op : Operator} {r : R2} {a b : Expr} (ho : OpR X (binaryOp op) r) (ha : PET X a ta) (hb : PE X b tb) : PET X (.BinOp a op b pos) (tOp r ta tb) := by
  intro pins s σ H Q h0 I h
  refine wpAny_BinOp (thn (ha pins s σ H _ h0 I h) fun v s1 ⟨x, H1, I1, r1, q1⟩ => ?_)
  refine thn (hb.run pins s1 σ H1 _ I1 q1) fun u s2 ⟨y, H2, I2, r2, q2⟩ => ?_
  exact ho pins s2 σ H2 x y v u Q I2 r1 r2 q2
theorem pst_ret (he : PET X e te) : PST X (.Return (some e) pos) (tRet te) := by
  intro pins s σ H D h0 I h
  exact wpAny_Return_some (thn (he pins s σ H _ h0 I h) fun v s1 ⟨x, H1, I1, r1, q1⟩ => ⟨x, σ, H1, I1, r1, q1⟩)
theorem psst_one (h : PST X st u) : PSsT X [st] u := by
  intro pins s σ H D h0 I q
  refine wpAny_execs_cons (thn (h pins s σ H D h0 I q) fun f s1 q1 => ?_)
  cases f with
  | next =>
    obtain ⟨σ', H', I', q2⟩ := q1
    exact wpAny_execs_nil ⟨σ', H', I', q2⟩
  | ret v => exact q1
  | brk => exact q1
  | cont => exact q1
/-- o.replace('y', 'z') -/
def tRepl (y z : Str) (to : TE) : TE := fun σ H Q => to σ H fun x H1 => ∃ a : Str, x = .str a ∧ a.length + (a.length + 1) * z.length ≤ 16777216 ∧ Q (.str (Txt.replace a y z)) H1
theorem pet_repl {y z : Str} {j0 j1 : Nat} {c0 c1 apos : Pos} (ho : PET X o to) (hyz : (y == z) = false)
    (hst : starEach [.Constant (.str y) j0 c0, .Constant (.str z) j1 c1] X.env = [(false, eval (.Constant (.str y) j0 c0) X.env), (false, eval (.Constant (.str z) j1 c1) X.env)] := by rfl)
    (hbase : attributeBase o "replace" X.env (eval o X.env) = eval o X.env := by rfl) (hline : (apos.endLine == pos.line) = true := by rfl) :
    PET X (.Call (.Attribute o "replace" apos) [.Constant (.str y) j0 c0, .Constant (.str z) j1 c1] [] pos) (tRepl y z to) := by
  intro pins s σ H Q h0 I h
  refine PySem.Call_method2 hbase hst hline (wpAny_mono (wpAny_toks_of h0 (ho pins s σ H _ h0 I h)) (fun v s1 ⟨h1, x, H1, I1, r1, a, ea, hb, q⟩ => ?_) fun _ _ z => z.2)
  subst ea
  obtain ⟨tx, e⟩ := r1
  subst e
  refine ⟨"str", _, F.plainAttrs_str, F.slot_str_replace, F.type_str_replace, typeIs_str _ _ _, (fun _ e => nomatch e), Calls.callWith_builtin rfl (Calls.evalArgs_plain (Calls.spliced_cons (Calls.Constant_str ?_)))⟩
  refine Calls.spliced_cons (Calls.Constant_str (Calls.spliced_nil ?_))
  exact PySem.SC.replace (show s1.toks ≠ 0 by omega) (show s1.toks + 1 ≠ 0 by omega) (show s1.toks ≠ s1.toks + 1 by omega) hyz hb fun t' k => ⟨.str (Txt.replace a y z), H1, I1.tok k, ⟨t', rfl⟩, q⟩
end
section
variable {K : PySem.W.Frag} {σ : L2.St} {H : Hp} {Q : VK} {ta te : TE} {tr : TA} {D : Ends} {x : V}
theorem x_callS {sp : Sp} {E : L2.St → XK} (h : tr σ H fun vs H1 => sp vs H1 Q (E σ)) : tCallS sp E tr σ H Q := h
theorem s_try {Wout : WX} {l : List (Value × (Addr → Value → Option Addr → TS))} {tb : WX → TS} (h : tb (wMany K Wout D l) D σ H) : tTry K Wout l tb D σ H := h
theorem s_raise {c : Value} {E : XK} (h : E c none H) : tRaise c E D σ H := h
theorem x_repl {y z : Str} (h : ta σ H fun x H1 => ∃ a : Str, x = .str a ∧ a.length + (a.length + 1) * z.length ≤ 16777216 ∧ Q (.str (Txt.replace a y z)) H1) : tRepl y z ta σ H Q := h
theorem x_disp {trs : List (TE × TE)} (h : ∀ p, H p = none → tPairs trs σ (upd H p (.dK [])) fun ps H2 => H2 p = some (.dK []) ∧ ∃ kvs : List (Key × V), ps = kvs.map (fun kv => (kV kv.1, kv.2)) ∧ kvs.length ≤ 15 ∧ Q (.ref p) (upd H2 p (.dK (mergeK [] kvs)))) : tDisp trs σ H Q := h
theorem w_hit {K : PySem.W.Frag} {Wout : WX} {D : Ends} {c cls : Value} {d : Option Addr} {ts : Addr → Value → Option Addr → TS} {r : List (Value × (Addr → Value → Option Addr → TS))} (e : PySem.W.exmOne K cls c = some true) (h : ∀ a, H a = none → ts a cls d D σ H) : wMany K Wout D ((c, ts) :: r) cls d σ H := ⟨true, e, (fun _ => h), (fun z => nomatch z)⟩
theorem w_miss {K : PySem.W.Frag} {Wout : WX} {D : Ends} {c cls : Value} {d : Option Addr} {ts : Addr → Value → Option Addr → TS} {r : List (Value × (Addr → Value → Option Addr → TS))} (e : PySem.W.exmOne K cls c = some false) (h : wMany K Wout D r cls d σ H) : wMany K Wout D ((c, ts) :: r) cls d σ H := ⟨false, e, (fun z => nomatch z), fun _ => h⟩
theorem ty_D {d : PyData} (h : Dp K H x d) (q : Q (.ty (tyName d)) H) : rTyp K [x] H Q := by
  cases h with
  | non => exact ty_N q
  | bl b => exact ty_B q
  | int i => exact ty_I q
  | str z => exact ty_S q
  | lst h _ => exact ty_L h q
  | tup h _ => exact ty_T h q
end
/-- one sign exchanged for a text, sign by sign -/
theorem repl_S (l : List Nat) (c : Nat) (z : List Nat) : Txt.replace (S l) (S [c]) (S z) = S (l.flatMap fun d => if d = c then z else [d]) := by
  have e := StrLaws.replace_list (x := S l) (y := S [c]) (z := S z) (Nat.le_refl 1)
  have e2 : (Txt.replace (S l) (S [c]) (S z)).cps.toList = l.flatMap fun d => if d = c then z else [d] := by
    rw [e]
    show StrLaws.replL [c] z l = _
    clear e
    induction l with
    | nil => exact StrLaws.replL_nil
    | cons d l ih =>
      rw [List.flatMap_cons]
      by_cases h : d = c
      · subst h
        rw [StrLaws.replL_hit (by simp) rfl, if_pos rfl]
        show z ++ StrLaws.replL [d] z l = _
        rw [ih]
      · rw [StrLaws.replL_miss (by simpa using h), if_neg h, ih]
        rfl
  rw [S_eta (Txt.replace (S l) (S [c]) (S z)), e2]
end My

set_option Elab.async false
set_option linter.all false
set_option maxRecDepth 100000
set_option maxHeartbeats 1000000
/-! ### heaps that change at two places; lists of drawn things; data -/
namespace My
open PySem PySem.Spec PyProof.Rows L2
section
variable {K : PySem.W.Frag}
def Frm (s g : Addr) (H H' : Hp) : Prop := ∀ a o, a ≠ s → a ≠ g → H a = some o → H' a = some o
theorem Frm.refl {s g : Addr} (H : Hp) : Frm s g H H := fun _ _ _ _ h => h
theorem Frm.trans {s g : Addr} {H1 H2 H3 : Hp} (a : Frm s g H1 H2) (b : Frm s g H2 H3) : Frm s g H1 H3 := fun x o h1 h2 h => b x o h1 h2 (a x o h1 h2 h)
theorem Frm.new {s g p : Addr} {H H' : Hp} {o : HO} (a : Frm s g H H') (h : H' p = none) : Frm s g H (upd H' p o) := fun x u h1 h2 e => by
  have e' := a x u h1 h2 e
  rw [upd_ne (ne_of_none e' h)]
  exact e'
theorem Frm.updS {s g : Addr} {H H' : Hp} {o : HO} (a : Frm s g H H') : Frm s g H (upd H' s o) := fun x u h1 h2 e => by
  rw [upd_ne h1]
  exact a x u h1 h2 e
theorem Frm.updG {s g : Addr} {H H' : Hp} {o : HO} (a : Frm s g H H') : Frm s g H (upd H' g o) := fun x u h1 h2 e => by
  rw [upd_ne h2]
  exact a x u h1 h2 e
theorem Frm.same {s g : Addr} {R H H' : Hp} (a : Frm s g H H') (e : Same R H) (hs : R s = none) (hg : R g = none) : Same R H' := fun x o h => a x o (fun z => by rw [z, hs] at h; cases h) (fun z => by rw [z, hg] at h; cases h) (e x o h)
theorem dp_ints {p : Addr} {H : Hp} (ns : List Int) (h : SqL K H p (ns.map V.int)) : Dp K H (.ref p) (.list (ns.map PyData.int)) := by
  refine .lst h ?_
  clear h
  induction ns with
  | nil => exact .nil
  | cons b bs ih => exact .cons (.int b) ih
theorem shaped_ints (ns : List Int) : SeqAt.shaped (.list (ns.map PyData.int)) = true := by
  have h1 : PyData.canLayAll0 (ns.map PyData.int) = true := by
    induction ns with
    | nil => rfl
    | cons b bs ih => simp [PyData.canLayAll0, PyData.canLay0, ih]
  have h2 : PyData.depthAll (ns.map PyData.int) ≤ 1 := by
    clear h1
    induction ns with
    | nil => simp [PyData.depthAll]
    | cons b bs ih =>
      simp only [List.map_cons, PyData.depthAll, PyData.depth] at *
      omega
  unfold SeqAt.shaped
  rw [Bool.and_eq_true]
  refine ⟨h1, decide_eq_true ?_⟩
  simp only [PyData.depth]
  omega
theorem log_40 {n : Int} (h0 : 0 < n) (h : n < 2 ^ 40) : n.natAbs.log2 < 9000 := by
  have h1 : n.natAbs < 2 ^ 40 := by omega
  exact Nat.lt_trans ((Nat.log2_lt (by omega)).mpr h1) (by decide)
theorem map_get {ns : List Int} {i : Nat} {x : V} (h : (ns.map V.int)[i]? = some x) : ∃ z, ns[i]? = some z ∧ x = .int z := by
  rw [List.getElem?_map] at h
  cases e : ns[i]? with
  | none => rw [e] at h; cases h
  | some z =>
    rw [e] at h
    exact ⟨z, rfl, (Option.some.inj h).symm⟩
theorem flat_len : ∀ {cs : List (List Nat)}, (∀ c ∈ cs, c.length = 1) → cs.flatten.length = cs.length
  | [], _ => rfl
  | c :: cs, h => by
    rw [List.flatten_cons, List.length_append, h c (List.mem_cons_self ..), flat_len fun d hd => h d (List.mem_cons_of_mem _ hd), List.length_cons]
    omega
theorem isT_flat {cs : List (List Nat)} (h : ∀ c ∈ cs, isT c = true) : isT cs.flatten = true := isT_of fun x hx => by
  obtain ⟨c, hc, hm⟩ := List.mem_flatten.mp hx
  exact isT_mem (h c hc) hm
theorem repl_len (k : Nat) (l : List Nat) : (List.replicate k l).flatten.length = k * l.length := by
  rw [List.length_flatten, List.map_replicate, List.sum_replicate_nat]
theorem isT_get {l : List Nat} (h : isT l = true) {i c : Nat} (hc : l[i]? = some c) : isT [c] = true := isT_of fun x hx => by
  rw [List.mem_singleton] at hx
  subst hx
  exact isT_mem h (List.mem_of_getElem? hc)
theorem Frm.of {s g : Addr} {H H' : Hp} (e : Same H H') : Frm s g H H' := fun a o _ _ h => e a o h
theorem Frm.mut {s g B : Addr} {H H' : Hp} {o : HO} (a : Frm s g H H') (hB : H B = none) : Frm s g H (upd H' B o) := fun x u h1 h2 e => by
  rw [upd_ne (ne_of_none e hB)]
  exact a x u h1 h2 e
def RngAll (lo hi : Int) (xs : List V) : Prop := ∀ x ∈ xs, ∃ i : Int, lo ≤ i ∧ i ≤ hi ∧ x = V.int i
theorem rng_nil {lo hi : Int} : RngAll lo hi [] := fun _ h => by cases h
theorem rng_cons {lo hi i : Int} {xs : List V} (h0 : lo ≤ i) (h1 : i ≤ hi) (h : RngAll lo hi xs) : RngAll lo hi (.int i :: xs) := fun x hx => by
  rcases List.mem_cons.mp hx with rfl | hx
  · exact ⟨i, h0, h1, rfl⟩
  · exact h x hx
theorem ix_rng {H : Hp} {Q : VK} {p : Addr} {zs : List V} {lo hi : Int} {i : Int} (hp : SqL K H p zs) (ha : RngAll lo hi zs) (h0 : 0 ≤ i) (h1 : i < (zs.length : Int)) (q : ∀ z : Int, lo ≤ z → z ≤ hi → Q (.int z) H) : rIX K (.ref p) (.int i) H Q := by
  refine ix_L hp (at_in h0 h1) ?_
  have hi : i.toNat < zs.length := by omega
  obtain ⟨z, a, b, e⟩ := ha zs[i.toNat] (List.getElem_mem hi)
  rw [e]
  exact q z a b
theorem rep1 (k c : Nat) : (List.replicate k [c]).flatten = List.replicate k c := by
  induction k with
  | zero => rfl
  | succ k ih => rw [List.replicate_succ, List.flatten_cons, ih]; rfl
theorem rep1_isT {k c : Nat} (h : isT [c] = true) : isT (List.replicate k c) = true := isT_of fun x hx => by
  rw [(List.mem_replicate.mp hx).2]
  exact isT_mem h (List.mem_singleton.mpr rfl)
def menu1 : List Nat := [32, 33, 34, 35, 36, 38, 39, 40, 41, 42, 43, 44, 45, 46, 47, 48, 49, 50, 51, 52, 53, 54, 55, 56, 57, 58, 59, 60, 61, 62, 63, 64, 65, 66, 67, 68, 69, 70, 71, 72, 73, 74, 75, 76, 77, 78, 79, 80, 81, 82, 83, 84, 85, 86, 87, 88, 89, 90, 91, 92, 93, 94, 95, 96]
def menu2 : List Nat := [97, 98, 99, 100, 101, 102, 103, 104, 105, 106, 107, 108, 109, 110, 111, 112, 113, 114, 115, 116, 117, 118, 119, 120, 121, 122, 123, 124, 125, 126]
theorem digit_code {n : Nat} : ∀ c ∈ (Nat.toDigits 10 n).map Char.toNat, 48 ≤ c ∧ c ≤ 57 := by
  intro c hc
  have h1 : n < 10 ^ (n + 1) := Nat.lt_trans (Nat.lt_succ_self n) (Nat.lt_pow_self (by decide))
  have h2 := figs_isD (n + 1) n
  rw [← pad_figs (n + 1) n h1 (Nat.succ_pos _)] at h2
  have h3 := List.all_eq_true.mp h2 c (List.mem_append_right _ hc)
  rw [Bool.and_eq_true, decide_eq_true_eq, decide_eq_true_eq] at h3
  exact h3
theorem zf_num (w n : Nat) : Txt.zfill (Str.ofString (toString (n : Int))) (w : Int) = S (pad w n) := by
  rw [SX.num_S, numL_eq]
  unfold Txt.zfill pad
  have hl : (S ((Nat.toDigits 10 n).map Char.toNat)).length = (Nat.toDigits 10 n).length := by rw [S_len, List.length_map]
  show (if (w : Int) ≤ (S ((Nat.toDigits 10 n).map Char.toNat)).length then S ((Nat.toDigits 10 n).map Char.toNat) else zfilled (S ((Nat.toDigits 10 n).map Char.toNat)) ((w : Int).toNat - (S ((Nat.toDigits 10 n).map Char.toNat)).length)) = _
  rw [hl]
  by_cases h : (w : Int) ≤ (Nat.toDigits 10 n).length
  · rw [if_pos h, show w - (Nat.toDigits 10 n).length = 0 by omega]
    rfl
  · rw [if_neg h, Int.toNat_natCast]
    have hd := digit_code (n := n)
    generalize (Nat.toDigits 10 n).map Char.toNat = l at hd
    generalize w - (Nat.toDigits 10 n).length = k
    have e : zfilled (S l) k = Builtin.Str.padded (S l) k 0 48 := by
      unfold zfilled
      have h0 : ∀ c, (S l).cps[0]? = some c → 48 ≤ c := fun c hc => by
        have : l[0]? = some c := by
          have e : (S l).cps = l.toArray := rfl
          rw [e] at hc
          simpa using hc
        exact (hd c (List.mem_of_getElem? this)).1
      split
      · rename_i h
        exact absurd (h0 43 h) (by decide)
      · rename_i h
        exact absurd (h0 45 h) (by decide)
      · rfl
    rw [e]
    show (⟨_⟩ : Str) = ⟨_⟩
    congr 1
    apply Array.ext'
    simp
theorem log_small {n : Nat} (h : n < 1000000) : ((n : Int).natAbs).log2 < 1920 := by
  rw [Int.natAbs_natCast]
  by_cases h0 : n = 0
  · subst h0; decide
  · exact Nat.lt_of_lt_of_le ((Nat.log2_lt h0).mpr (show n < 2 ^ 20 by omega)) (by decide)
def tv (ls : List (List Nat)) : List V := ls.map fun l => V.str (S l)
theorem tv_len (ls : List (List Nat)) : (tv ls).length = ls.length := List.length_map ..
theorem tv_app (a b : List (List Nat)) : tv (a ++ b) = tv a ++ tv b := List.map_append ..
theorem tv_eq (ls : List (List Nat)) : tv ls = (ls.map S).map V.str := by
  unfold tv
  rw [List.map_map]
  rfl
theorem take_snoc {α : Type} {xs : List α} {i : Nat} {x : α} (h : xs[i]? = some x) : xs.take (i + 1) = xs.take i ++ [x] := by
  rw [List.take_add_one, h]
  rfl
theorem pad_le {w n : Nat} (h : n < 1000000) : (pad w n).length ≤ w + 6 := by
  unfold pad
  have h1 := toDigits_len10 (w := 6) (n := n) (by omega) (by decide)
  rw [List.length_append, List.length_replicate, List.length_map]
  omega
theorem flat_le {n : Nat} : ∀ {cs : List (List Nat)}, (∀ c ∈ cs, c.length ≤ n) → cs.flatten.length ≤ n * cs.length
  | [], _ => Nat.zero_le _
  | c :: cs, h => by
    rw [List.flatten_cons, List.length_append, List.length_cons, Nat.mul_add, Nat.mul_one]
    have h1 := h c (List.mem_cons_self ..)
    have h2 := flat_le fun d hd => h d (List.mem_cons_of_mem _ hd)
    omega
theorem sz {k : Nat} (h : k ≤ 200000) : k ≤ sizeLine := Nat.le_trans h (by decide)
theorem dp_tup2 {H : Hp} {x : V} {a b : PyData} (h : Dp K H x (.tuple [a, b])) : ∃ p u v, x = .ref p ∧ SqT K H p [u, v] ∧ Dp K H u a ∧ Dp K H v b := by
  cases h with
  | tup hs ha =>
    cases ha with
    | cons h1 ha =>
      cases ha with
      | cons h2 ha =>
        cases ha
        exact ⟨_, _, _, rfl, hs, h1, h2⟩
theorem dp_tup3 {H : Hp} {x : V} {a b c : PyData} (h : Dp K H x (.tuple [a, b, c])) : ∃ p u v z, x = .ref p ∧ SqT K H p [u, v, z] ∧ Dp K H u a ∧ Dp K H v b ∧ Dp K H z c := by
  cases h with
  | tup hs ha =>
    cases ha with
    | cons h1 ha =>
      cases ha with
      | cons h2 ha =>
        cases ha with
        | cons h3 ha =>
          cases ha
          exact ⟨_, _, _, _, rfl, hs, h1, h2, h3⟩
theorem dp_str' {H : Hp} {x : V} {z : Str} (h : Dp K H x (.str z)) : x = .str z := by
  cases h
  rfl
theorem dp_int' {H : Hp} {x : V} {z : Int} (h : Dp K H x (.int z)) : x = .int z := by
  cases h
  rfl
theorem dp_tup' {H : Hp} {x : V} {ds : List PyData} (h : Dp K H x (.tuple ds)) : ∃ p us, x = .ref p ∧ SqT K H p us ∧ DpAll K H us ds := by
  cases h with
  | tup hs ha => exact ⟨_, _, rfl, hs, ha⟩
theorem all_at {α : Type} {F : α → PyData} {H : Hp} {us : List V} {xs : List α} (h : DpAll K H us (xs.map F)) {i : Nat} {x : V} (hx : us[i]? = some x) : ∃ a, xs[i]? = some a ∧ Dp K H x (F a) := by
  have hl := dpAll_len h
  rw [List.length_map] at hl
  have hi : i < xs.length := by rw [← hl]; exact (List.getElem?_eq_some_iff.mp hx).1
  obtain ⟨v, hv, hd⟩ := dpAll_get h (i := i) (by rw [List.length_map]; exact hi)
  rw [hx] at hv
  cases hv
  rw [List.getElem_map] at hd
  exact ⟨xs[i], List.getElem?_eq_getElem hi, hd⟩
def isBo : PyData → Bool | .bool _ => true | _ => false
def isIn : PyData → Bool | .bool _ => true | .int _ => true | _ => false
def isSt : PyData → Bool | .str _ => true | _ => false
def isTu : PyData → Bool | .tuple _ => true | _ => false
def isLi : PyData → Bool | .list _ => true | _ => false
def isNo : PyData → Bool | .none => true | _ => false
theorem kit_bo {H : Hp} {x : V} {d : PyData} (h : Dp K H x d) : kitB (tyName d) "bool" = some (isBo d) := by cases h <;> first | rfl | decide +kernel
theorem kit_in {H : Hp} {x : V} {d : PyData} (h : Dp K H x d) : kitB (tyName d) "int" = some (isIn d) := by cases h <;> first | rfl | decide +kernel
theorem kit_st {H : Hp} {x : V} {d : PyData} (h : Dp K H x d) : kitB (tyName d) "str" = some (isSt d) := by cases h <;> first | rfl | decide +kernel
theorem kit_tu {H : Hp} {x : V} {d : PyData} (h : Dp K H x d) : kitB (tyName d) "tuple" = some (isTu d) := by cases h <;> first | rfl | decide +kernel
theorem kit_li {H : Hp} {x : V} {d : PyData} (h : Dp K H x d) : kitB (tyName d) "list" = some (isLi d) := by cases h <;> first | rfl | decide +kernel
theorem non_d {H : Hp} {x : V} {d : PyData} (h : Dp K H x d) : decide (x = .non) = isNo d := by cases h <;> rfl
def Up (F : PyData → Prop) : PyData → Prop
  | .list ds => ds.length ≤ 100000 ∧ ∀ e ∈ ds, F e
  | .tuple ds => ds.length ≤ 100000 ∧ ∀ e ∈ ds, F e
  | d => SeqAt.shaped d = true
def Fine : Nat → PyData → Prop
  | 0 => Up fun _ => False
  | n + 1 => Up (Fine n)
def SqX (K : PySem.W.Frag) (H : Hp) (p : Addr) (xs : List V) : Prop := SqL K H p xs ∨ SqT K H p xs
theorem SqX.mono {H H' : Hp} {p : Addr} {xs : List V} (e : Same H H') (h : SqX K H p xs) : SqX K H' p xs := h.elim (fun h => .inl (e.seq h)) fun h => .inr (same_sqt e h)
theorem ix_X {H : Hp} {Q : VK} {p : Addr} {xs : List V} {i : Int} {v : V} (h : SqX K H p xs) (ha : atI xs i = some v) (q : Q v H) : rIX K (.ref p) (.int i) H Q := h.elim (fun h => ix_L h ha q) fun h => ix_T h ha q
theorem ln_X {H : Hp} {Q : VK} {p : Addr} {xs : List V} (h : SqX K H p xs) (q : Q (.int xs.length) H) : rLEN K [.ref p] H Q := h.elim (fun h => ln_l h q) fun h => ln_t h q
def numAt (l : List Nat) (a k : Nat) : Option Nat := if ((l.take (a + k)).drop a).length = k ∧ k ≠ 0 ∧ isD ((l.take (a + k)).drop a) = true then some (NumText.digitsVal ((l.take (a + k)).drop a)) else none
inductive NumV : Option Nat → V → Prop where
  | some (n : Nat) : NumV (some n) (.int n)
  | none : NumV none .non
theorem mem_fig (c : Nat) : c ∈ [48, 49, 50, 51, 52, 53, 54, 55, 56, 57] ↔ 48 ≤ c ∧ c ≤ 57 := by
  simp only [List.mem_cons, List.not_mem_nil, or_false]
  omega
theorem isD_snoc {l : List Nat} {i c : Nat} (h : l[i]? = some c) : isD (l.take (i + 1)) = (isD (l.take i) && (decide (48 ≤ c) && decide (c ≤ 57))) := by
  rw [List.take_add_one, h]
  unfold isD
  show List.all (_ ++ [c]) _ = _
  rw [List.all_append]
  simp
theorem eqv_ints (ns : List Int) : PyData.eqv (.list (ns.map PyData.int)) (.list []) = decide (ns = []) := by
  cases ns with
  | nil => rfl
  | cons n ns =>
    rw [decide_eq_false (by intro h; cases h)]
    rfl
theorem dp_strs (H : Hp) : ∀ ls : List (List Nat), DpAll K H (tv ls) (ls.map fun l => PyData.str (S l))
  | [] => .nil
  | l :: ls => .cons (.str _) (dp_strs H ls)
def AllT (ls : List (List Nat)) : Prop := ∀ l ∈ ls, isT l = true
theorem shaped_strs (ls : List (List Nat)) (h : AllT ls) : SeqAt.shaped (.list (ls.map fun l => PyData.str (S l))) = true := by
  have h1 : PyData.canLayAll0 (ls.map fun l => PyData.str (S l)) = true := by
    induction ls with
    | nil => rfl
    | cons b bs ih =>
      have hb : PyData.strOk (S b) = true := by
        unfold PyData.strOk
        rw [← Array.all_toList, S_cps, List.all_eq_true]
        intro c hc
        have := isT_mem (h b (List.mem_cons_self ..)) hc
        exact decide_eq_true (by omega)
      simp [PyData.canLayAll0, PyData.canLay0, ih fun l hl => h l (List.mem_cons_of_mem _ hl), hb]
  have h2 : PyData.depthAll (ls.map fun l => PyData.str (S l)) ≤ 1 := by
    clear h1 h
    induction ls with
    | nil => simp [PyData.depthAll]
    | cons b bs ih =>
      simp only [List.map_cons, PyData.depthAll, PyData.depth] at *
      omega
  unfold SeqAt.shaped
  rw [Bool.and_eq_true]
  refine ⟨h1, decide_eq_true ?_⟩
  simp only [PyData.depth]
  omega
theorem eqv_strs (ls : List (List Nat)) : PyData.eqv (.list (ls.map fun l => PyData.str (S l))) (.list []) = decide (ls = []) := by
  cases ls with
  | nil => rfl
  | cons n ns =>
    rw [decide_eq_false (by intro h; cases h)]
    rfl
theorem mid {A B C : List Nat} {i j : Nat} (hi : A.length = i) (hj : i + B.length = j) : ((A ++ (B ++ C)).take j).drop i = B := by
  rw [← List.append_assoc, List.take_left' (by rw [List.length_append, hi]; exact hj), List.drop_left' hi]
theorem numAt_mid {A B C : List Nat} {a k : Nat} (ha : A.length = a) (hk : B.length = k) (h0 : k ≠ 0) (hD : isD B = true) : numAt (A ++ (B ++ C)) a k = some (NumText.digitsVal B) := by
  unfold numAt
  rw [mid ha (by rw [hk]), if_pos ⟨hk, h0, hD⟩]
theorem numAt_pad {A C : List Nat} {a w n : Nat} (ha : A.length = a) (h0 : w ≠ 0) (hn : n < 10 ^ w) : numAt (A ++ (pad w n ++ C)) a w = some n := by
  rw [pad_figs w n hn (Nat.pos_of_ne_zero h0), numAt_mid ha (figs_len w n) h0 (figs_isD w n), digitsVal_figs w n hn]
theorem pad_lenW {w n : Nat} (h0 : w ≠ 0) (hn : n < 10 ^ w) : (pad w n).length = w := by
  rw [pad_figs w n hn (Nat.pos_of_ne_zero h0), figs_len]
def kv (ks : List Nat) : List V := ks.map fun k : Nat => V.int k
theorem kv_app (a b : List Nat) : kv (a ++ b) = kv a ++ kv b := List.map_append ..
theorem kv_len (a : List Nat) : (kv a).length = a.length := List.length_map ..
theorem dp_kv (H : Hp) : ∀ ks : List Nat, DpAll K H (kv ks) (ks.map fun k : Nat => PyData.int k)
  | [] => .nil
  | k :: ks => .cons (.int _) (dp_kv H ks)
theorem shaped_str {l : List Nat} (h : isT l = true) : SeqAt.shaped (.str (S l)) = true := by
  have hb : PyData.strOk (S l) = true := by
    unfold PyData.strOk
    rw [← Array.all_toList, S_cps, List.all_eq_true]
    intro c hc
    have := isT_mem h hc
    exact decide_eq_true (by omega)
  unfold SeqAt.shaped
  simp [PyData.canLay0, PyData.depth, hb]
theorem fine_str {l : List Nat} (h : isT l = true) : ∀ n, Fine n (.str (S l))
  | 0 => shaped_str h
  | _ + 1 => shaped_str h
theorem fine_int (i : Int) : ∀ n, Fine n (.int i)
  | 0 => by show SeqAt.shaped (.int i) = true; simp [SeqAt.shaped, PyData.canLay0, PyData.depth]
  | _ + 1 => by show SeqAt.shaped (.int i) = true; simp [SeqAt.shaped, PyData.canLay0, PyData.depth]
theorem fine_non : ∀ n, Fine n .none
  | 0 => by show SeqAt.shaped .none = true; simp [SeqAt.shaped, PyData.canLay0, PyData.depth]
  | _ + 1 => by show SeqAt.shaped .none = true; simp [SeqAt.shaped, PyData.canLay0, PyData.depth]
theorem fine_tup {n : Nat} {ds : List PyData} (hl : ds.length ≤ 100000) (h : ∀ e ∈ ds, Fine n e) : Fine (n + 1) (.tuple ds) := ⟨hl, h⟩
theorem fine_lst {n : Nat} {ds : List PyData} (hl : ds.length ≤ 100000) (h : ∀ e ∈ ds, Fine n e) : Fine (n + 1) (.list ds) := ⟨hl, h⟩
theorem all2 {α : Type} {F : α → Prop} {a b : α} (h1 : F a) (h2 : F b) : ∀ e ∈ [a, b], F e := fun e he => by
  rcases List.mem_cons.mp he with rfl | he
  · exact h1
  · rw [List.mem_singleton.mp he]; exact h2
theorem all3 {α : Type} {F : α → Prop} {a b c : α} (h1 : F a) (h2 : F b) (h3 : F c) : ∀ e ∈ [a, b, c], F e := fun e he => by
  rcases List.mem_cons.mp he with rfl | he
  · exact h1
  · exact all2 h2 h3 e he
theorem pad_T {w n : Nat} (h0 : w ≠ 0) (hn : n < 10 ^ w) : isT (pad w n) = true := by
  rw [pad_figs w n hn (Nat.pos_of_ne_zero h0)]
  exact isD_isT (figs_isD w n)
theorem flat_eq {n : Nat} : ∀ {cs : List (List Nat)}, (∀ c ∈ cs, c.length = n) → cs.flatten.length = n * cs.length
  | [], _ => rfl
  | c :: cs, h => by
    rw [List.flatten_cons, List.length_append, List.length_cons, Nat.mul_add, Nat.mul_one]
    have h1 := h c (List.mem_cons_self ..)
    have h2 := flat_eq fun d hd => h d (List.mem_cons_of_mem _ hd)
    omega
end
end My

set_option Elab.async false
set_option linter.all false
set_option maxRecDepth 100000
set_option maxHeartbeats 4000000
namespace My
open PySem PySem.Spec PyProof.Rows L2
/-! ### the text -/
def topS (i : Nat) : Stmt := PySem.Challenge.pw_heldpasts_k21_value_codes.main.body.getD i (.Pass ⟨0, 0, 0, 0⟩)
abbrev s_is_text : Stmt := topS 4
theorem sc_is_text : FnScope ["value"] ["value"] (defScope s_is_text) := ⟨rfl, rfl, rfl, by decide +kernel, rfl, by decide +kernel, by decide +kernel⟩
-- is_text: 0 value
abbrev s_is_value : Stmt := topS 9
theorem sc_is_value : FnScope ["value"] ["value"] (defScope s_is_value) := ⟨rfl, rfl, rfl, by decide +kernel, rfl, by decide +kernel, by decide +kernel⟩
-- is_value: 0 value
abbrev s_value_code : Stmt := topS 10
theorem sc_value_code : FnScope ["value"] ["value"] (defScope s_value_code) := ⟨rfl, rfl, rfl, by decide +kernel, rfl, by decide +kernel, by decide +kernel⟩
-- value_code: 0 value
abbrev s_integer_code : Stmt := topS 11
theorem sc_integer_code : FnScope ["value", "digits", "digit"] ["value"] (defScope s_integer_code) := ⟨rfl, rfl, rfl, by decide +kernel, rfl, by decide +kernel, by decide +kernel⟩
-- integer_code: 0 value, 1 digits, 2 digit
abbrev s_text_code : Stmt := topS 12
theorem sc_text_code : FnScope ["text"] ["text"] (defScope s_text_code) := ⟨rfl, rfl, rfl, by decide +kernel, rfl, by decide +kernel, by decide +kernel⟩
-- text_code: 0 text
abbrev s__law_jar : Stmt := topS 14
theorem sc__law_jar : FnScope ["_law_cell"] ["_law_cell"] (defScope s__law_jar) := ⟨rfl, rfl, rfl, by decide +kernel, rfl, by decide +kernel, by decide +kernel⟩
-- _law_jar: 0 _law_cell
abbrev s__law_drawn : Stmt := topS 15
theorem sc__law_drawn : FnScope ["_law_jar_here", "_law_many", "_law_digit"] ["_law_jar_here", "_law_many"] (defScope s__law_drawn) := ⟨rfl, rfl, rfl, by decide +kernel, rfl, by decide +kernel, by decide +kernel⟩
-- _law_drawn: 0 _law_jar_here, 1 _law_many, 2 _law_digit
abbrev s__law_signs : Stmt := topS 16
theorem sc__law_signs : FnScope ["_law_signs_here"] [] (defScope s__law_signs) := ⟨rfl, rfl, rfl, by decide +kernel, rfl, by decide +kernel, by decide +kernel⟩
-- _law_signs: 0 _law_signs_here
abbrev s__law_code : Stmt := topS 17
theorem sc__law_code : FnScope ["_law_value_here", "_law_counts", "_law_sign", "_law_digits", "_law_digit"] ["_law_value_here"] (defScope s__law_code) := ⟨rfl, rfl, rfl, by decide +kernel, rfl, by decide +kernel, by decide +kernel⟩
-- _law_code: 0 _law_value_here, 1 _law_counts, 2 _law_sign, 3 _law_digits, 4 _law_digit
abbrev s__law_text : Stmt := topS 18
theorem sc__law_text : FnScope ["_law_jar_here", "_law_signs_here", "_law_low", "_law_kind", "_law_size", "_law_one", "_law_other", "_law_at", "_law_k"] ["_law_jar_here"] (defScope s__law_text) := ⟨rfl, rfl, rfl, by decide +kernel, rfl, by decide +kernel, by decide +kernel⟩
-- _law_text: 0 _law_jar_here*, 1 _law_signs_here*, 2 _law_low*, 3 _law_kind, 4 _law_size, 5 _law_one, 6 _law_other, 7 _law_at, 8 _law_k
abbrev s__law_number : Stmt := topS 19
theorem sc__law_number : FnScope ["_law_jar_here", "_law_kind", "_law_many", "_law_below", "_law_power", "_law_k", "_law_found"] ["_law_jar_here"] (defScope s__law_number) := ⟨rfl, rfl, rfl, by decide +kernel, rfl, by decide +kernel, by decide +kernel⟩
-- _law_number: 0 _law_jar_here, 1 _law_kind, 2 _law_many, 3 _law_below, 4 _law_power, 5 _law_k, 6 _law_found
abbrev s__law_value : Stmt := topS 20
theorem sc__law_value : FnScope ["_law_jar_here", "_law_kind"] ["_law_jar_here"] (defScope s__law_value) := ⟨rfl, rfl, rfl, by decide +kernel, rfl, by decide +kernel, by decide +kernel⟩
-- _law_value: 0 _law_jar_here, 1 _law_kind
abbrev s__law_bent : Stmt := topS 21
theorem sc__law_bent : FnScope ["_law_jar_here", "_law_at", "_law_side", "_law_power", "_law_text_here", "_law_rest", "_law_menu"] ["_law_jar_here"] (defScope s__law_bent) := ⟨rfl, rfl, rfl, by decide +kernel, rfl, by decide +kernel, by decide +kernel⟩
-- _law_bent: 0 _law_jar_here, 1 _law_at, 2 _law_side, 3 _law_power, 4 _law_text_here, 5 _law_rest, 6 _law_menu
abbrev s__law_told : Stmt := topS 22
theorem sc__law_told : FnScope ["_law_value_here", "_law_found"] ["_law_value_here"] (defScope s__law_told) := ⟨rfl, rfl, rfl, by decide +kernel, rfl, by decide +kernel, by decide +kernel⟩
-- _law_told: 0 _law_value_here, 1 _law_found
abbrev s_law : Stmt := topS 23
theorem sc_law : FnScope ["_law_script", "_law_edges", "_law_value_here", "_law_cell", "_law_jar_here", "_law_found"] ["_law_script"] (defScope s_law) := ⟨rfl, rfl, rfl, by decide +kernel, rfl, by decide +kernel, by decide +kernel⟩
-- law: 0 _law_script, 1 _law_edges, 2 _law_value_here, 3 _law_cell, 4 _law_jar_here, 5 _law_found
/-! ### the facts -/
def g_kb_value_code_0 : List Value → List Value → List Value
  | [], [y0] => [y0]
  | _, _ => []
def gV_kb_value_code_0 : List V → List V → List V
  | [], [y0] => [y0]
  | _, _ => []
structure Fx (K : PySem.W.Frag) (mg : Str → Option Value) where
  a_is_text : Addr
  fd_is_text : FuncData
  F_is_text : Fun K "is_text" "is_text" s_is_text a_is_text fd_is_text
  g_is_text : mg "is_text" = some (.ref a_is_text)
  b_is_text : Binds K fd_is_text ["value"] []
  a_is_value : Addr
  fd_is_value : FuncData
  F_is_value : Fun K "is_value" "is_value" s_is_value a_is_value fd_is_value
  g_is_value : mg "is_value" = some (.ref a_is_value)
  b_is_value : Binds K fd_is_value ["value"] []
  a_value_code : Addr
  fd_value_code : FuncData
  F_value_code : Fun K "value_code" "value_code" s_value_code a_value_code fd_value_code
  g_value_code : mg "value_code" = some (.ref a_value_code)
  b_value_code : Binds K fd_value_code ["value"] []
  a_integer_code : Addr
  fd_integer_code : FuncData
  F_integer_code : Fun K "integer_code" "integer_code" s_integer_code a_integer_code fd_integer_code
  g_integer_code : mg "integer_code" = some (.ref a_integer_code)
  b_integer_code : Binds K fd_integer_code ["value"] []
  a_text_code : Addr
  fd_text_code : FuncData
  F_text_code : Fun K "text_code" "text_code" s_text_code a_text_code fd_text_code
  g_text_code : mg "text_code" = some (.ref a_text_code)
  b_text_code : Binds K fd_text_code ["text"] []
  a__law_jar : Addr
  fd__law_jar : FuncData
  F__law_jar : Fun K "_law_jar" "_law_jar" s__law_jar a__law_jar fd__law_jar
  g__law_jar : mg "_law_jar" = some (.ref a__law_jar)
  b__law_jar : Binds K fd__law_jar ["_law_cell"] []
  a__law_drawn : Addr
  fd__law_drawn : FuncData
  F__law_drawn : Fun K "_law_drawn" "_law_drawn" s__law_drawn a__law_drawn fd__law_drawn
  g__law_drawn : mg "_law_drawn" = some (.ref a__law_drawn)
  b__law_drawn : Binds K fd__law_drawn ["_law_jar_here", "_law_many"] []
  a__law_signs : Addr
  fd__law_signs : FuncData
  F__law_signs : Fun K "_law_signs" "_law_signs" s__law_signs a__law_signs fd__law_signs
  g__law_signs : mg "_law_signs" = some (.ref a__law_signs)
  b__law_signs : Binds K fd__law_signs [] []
  a__law_code : Addr
  fd__law_code : FuncData
  F__law_code : Fun K "_law_code" "_law_code" s__law_code a__law_code fd__law_code
  g__law_code : mg "_law_code" = some (.ref a__law_code)
  b__law_code : Binds K fd__law_code ["_law_value_here"] []
  a__law_text : Addr
  fd__law_text : FuncData
  F__law_text : Fun K "_law_text" "_law_text" s__law_text a__law_text fd__law_text
  g__law_text : mg "_law_text" = some (.ref a__law_text)
  b__law_text : Binds K fd__law_text ["_law_jar_here"] []
  a__law_number : Addr
  fd__law_number : FuncData
  F__law_number : Fun K "_law_number" "_law_number" s__law_number a__law_number fd__law_number
  g__law_number : mg "_law_number" = some (.ref a__law_number)
  b__law_number : Binds K fd__law_number ["_law_jar_here"] []
  a__law_value : Addr
  fd__law_value : FuncData
  F__law_value : Fun K "_law_value" "_law_value" s__law_value a__law_value fd__law_value
  g__law_value : mg "_law_value" = some (.ref a__law_value)
  b__law_value : Binds K fd__law_value ["_law_jar_here"] []
  a__law_bent : Addr
  fd__law_bent : FuncData
  F__law_bent : Fun K "_law_bent" "_law_bent" s__law_bent a__law_bent fd__law_bent
  g__law_bent : mg "_law_bent" = some (.ref a__law_bent)
  b__law_bent : Binds K fd__law_bent ["_law_jar_here"] []
  a__law_told : Addr
  fd__law_told : FuncData
  F__law_told : Fun K "_law_told" "_law_told" s__law_told a__law_told fd__law_told
  g__law_told : mg "_law_told" = some (.ref a__law_told)
  b__law_told : Binds K fd__law_told ["_law_value_here"] []
  a_law : Addr
  fd_law : FuncData
  F_law : Fun K "law" "law" s_law a_law fd_law
  g_law : mg "law" = some (.ref a_law)
  b_law : Binds K fd_law ["_law_script"] []
  kb_value_code_0 : KBinds K fd_value_code ["value"] ["value"] g_kb_value_code_0 gV_kb_value_code_0
  x_InvalidValue : Addr
  q_InvalidValue : mg "InvalidValue" = some (.ref x_InvalidValue)
  x_StoreError : Addr
  q_StoreError : mg "StoreError" = some (.ref x_StoreError)
  e_InvalidValue : PySem.W.excIn K x_InvalidValue [.type "ValueError", .type "Exception", .type "BaseException", .type "object"] "ValueError.__new__" = true
  k_InvalidValue : PySem.W.keepIn K (.ref x_InvalidValue) = true
  s_InvalidValue : PySem.W.subIn K (.ref x_InvalidValue) (.type "BaseException") = some true
  t_InvalidValue : PySem.W.typeIn K (.ref x_InvalidValue) = some (.type "type")
  m_InvalidValue_InvalidValue : PySem.W.exmOne K (.ref x_InvalidValue) (.ref x_InvalidValue) = some true
  m_InvalidValue_StoreError : PySem.W.exmOne K (.ref x_InvalidValue) (.ref x_StoreError) = some true
  m_abs : mg "abs" = none
  m_bool : mg "bool" = none
  m_int : mg "int" = none
  m_isinstance : mg "isinstance" = none
  m_len : mg "len" = none
  m_max : mg "max" = none
  m_range : mg "range" = none
  m_str : mg "str" = none
  m_tuple : mg "tuple" = none
  m_type : mg "type" = none
  c_COUNT_SIGNS : ∃ t, mg "COUNT_SIGNS" = some (.str "@ABCDEFGHIJKLMNOPQRSTUVWXYZ[\\]^_`" t)
  c_MOST_SIGNS : ∃ t, mg "MOST_SIGNS" = some (.int 200 t)
  c_NINES_LESS : ∃ t, mg "NINES_LESS" = some (.str "9876543210" t)

/-! ### the bodies -/
section
variable {P : Program} {w : World} {K : PySem.W.Frag} {mg : Str → Option Value} {base : Heap}
def t_is_text (K : PySem.W.Frag)  : TS :=
    (tRet (tAndV (tOp (rIS K) (tCB (rTyp K) (tCons (tVar 0) tNil)) (tC (.ty "str"))) (tAndV (tBM0 K "str" rM_isascii (tVar 0)) (tBM0 K "str" rM_isprintable (tVar 0)))))
theorem b_is_text (Y : Fx K mg)   {f : Addr} {cdv : Value} {A : Around} {outer : List Env} {s : Shared} {H : Hp} {E : XK} (hr : Room 0 (A.deeper (envOfC "is_text" (defScope s_is_text) s.heap.objs.size f cdv))) :
    PSs (cxOf CX0 P w K mg base ["value"] "is_text" (defScope s_is_text) f cdv A outer s H E).nox (defBody s_is_text) (t_is_text K ) :=
    (pss_one (ps_ret (pe_and (pe_cmpR op_IS (pe_callTy call_type1 (by rfl) Y.m_type (by decide +kernel) (pa_cons (pv 0) pa_nil)) (pe_bltn (v := .ty "str") (by rfl) Y.m_str (by decide +kernel) rfl) (nomark _)) (pe_and (pe_bm0 PySem.F.plainAttrs_str PySem.F.slot_str_isascii PySem.F.type_str_isascii mt_isascii (pv 0)) (pe_one (pe_bm0 PySem.F.plainAttrs_str PySem.F.slot_str_isprintable PySem.F.type_str_isprintable mt_isprintable (pv 0)))))))
def t_is_value (K : PySem.W.Frag) (sp_is_text : PySem.W.Frag → Sp) : TS :=
    (tSeq (tIfS (tTest (tOp (rIS K) (tCB (rTyp K) (tCons (tVar 0) tNil)) (tC (.ty "int")))) (tRet (tOp rLT (tCB rABS (tCons (tVar 0) tNil)) (tOp rPOW (tC (.int 10)) (tC (.int 30))))) tNext)
    (tSeq (tIfS (tTest (tOp (rIS K) (tCB (rTyp K) (tCons (tVar 0) tNil)) (tC (.ty "str")))) (tRet (tAndV (tCall (sp_is_text K) [] E0 (tCons (tVar 0) tNil)) (tOp rLE (tCB (rLEN K) (tCons (tVar 0) tNil)) (tC (.int 200))))) tNext)
    (tRet (tOrV (tOp (rIS K) (tVar 0) (tC .non)) (tOp (rIS K) (tCB (rTyp K) (tCons (tVar 0) tNil)) (tC (.ty "bool")))))))
theorem b_is_value (Y : Fx K mg) {sp_is_text : PySem.W.Frag → Sp} (G_is_text : FnOk P w K mg base CX0 1 Y.a_is_text Y.fd_is_text ["value"] (sp_is_text K)) {f : Addr} {cdv : Value} {A : Around} {outer : List Env} {s : Shared} {H : Hp} {E : XK} (hr : Room 1 (A.deeper (envOfC "is_value" (defScope s_is_value) s.heap.objs.size f cdv))) :
    PSs (cxOf CX0 P w K mg base ["value"] "is_value" (defScope s_is_value) f cdv A outer s H E).nox (defBody s_is_value) (t_is_value K sp_is_text) :=
    (pss_cons (ps_if (pt_cmpR op_IS (pe_callTy call_type1 (by rfl) Y.m_type (by decide +kernel) (pa_cons (pv 0) pa_nil)) (pe_bltn (v := .ty "int") (by rfl) Y.m_int (by decide +kernel) rfl) (nomark _)) (pss_one (ps_ret (pe_cmpR op_LT (pe_callB call_ABS (by rfl) Y.m_abs (by decide +kernel) (pa_cons (pv 0) pa_nil)) (pe_op op_POW pe_int pe_int) (nomark _)))) pss_nil)
    (pss_cons (ps_if (pt_cmpR op_IS (pe_callTy call_type1 (by rfl) Y.m_type (by decide +kernel) (pa_cons (pv 0) pa_nil)) (pe_bltn (v := .ty "str") (by rfl) Y.m_str (by decide +kernel) rfl) (nomark _)) (pss_one (ps_ret (pe_and (pe_call G_is_text (hr.mono (by decide)) (by rfl) Y.g_is_text Y.F_is_text.kp Y.b_is_text .nil pass0 (pa_cons (pv 0) pa_nil)) (pe_one (pe_cmpR op_LE (pe_callB call_LEN (by rfl) Y.m_len (by decide +kernel) (pa_cons (pv 0) pa_nil)) (pe_cI (by rfl) Y.c_MOST_SIGNS) (nomark _)))))) pss_nil)
    (pss_one (ps_ret (pe_or (pe_cmpR op_IS (pv 0) pe_non (nomark _)) (pe_one (pe_cmpR op_IS (pe_callTy call_type1 (by rfl) Y.m_type (by decide +kernel) (pa_cons (pv 0) pa_nil)) (pe_bltn (v := .ty "bool") (by rfl) Y.m_bool (by decide +kernel) rfl) (nomark _))))))))
def t_value_code (K : PySem.W.Frag) {mg : Str → Option Value} (Y : Fx K mg) (E : XK) (sp_integer_code : PySem.W.Frag → Sp) (sp_is_value : PySem.W.Frag → Sp) (sp_text_code : PySem.W.Frag → Sp) : TS :=
    (tSeq (tIfS (tNot (tTru1 K (tCall (sp_is_value K) [] E0 (tCons (tVar 0) tNil)))) (tRaise (.ref Y.x_InvalidValue) E) tNext)
    (tSeq (tIfS (tTest (tOp (rIS K) (tVar 0) (tC .non))) (tRet (tC (.str "0"))) tNext)
    (tSeq (tIfS (tTest (tOp (rIS K) (tCB (rTyp K) (tCons (tVar 0) tNil)) (tC (.ty "bool")))) (tRet (tIf (tTru1 K (tVar 0)) (tC (.str "2")) (tC (.str "1")))) tNext)
    (tSeq (tIfS (tTest (tOp (rIS K) (tCB (rTyp K) (tCons (tVar 0) tNil)) (tC (.ty "int")))) (tRet (tCall (sp_integer_code K) [] E0 (tCons (tVar 0) tNil))) tNext)
    (tRet (tOp (rADD K) (tC (.str "t")) (tCall (sp_text_code K) [] E0 (tCons (tVar 0) tNil))))))))
theorem b_value_code (Y : Fx K mg) {sp_integer_code : PySem.W.Frag → Sp} {sp_is_value : PySem.W.Frag → Sp} {sp_text_code : PySem.W.Frag → Sp} (G_integer_code : FnOk P w K mg base CX0 1 Y.a_integer_code Y.fd_integer_code ["value"] (sp_integer_code K)) (G_is_value : FnOk P w K mg base CX0 2 Y.a_is_value Y.fd_is_value ["value"] (sp_is_value K)) (G_text_code : FnT P w K mg base CX0 1 Y.a_text_code Y.fd_text_code ["text"] (sp_text_code K)) {f : Addr} {cdv : Value} {A : Around} {outer : List Env} {s : Shared} {H : Hp} {E : XK} (hr : Room 2 (A.deeper (envOfC "value_code" (defScope s_value_code) s.heap.objs.size f cdv))) :
    PSs (cxOf (L2.CX P w) P w K mg base ["value"] "value_code" (defScope s_value_code) f cdv A outer s H E) (defBody s_value_code) (t_value_code K Y E sp_integer_code sp_is_value sp_text_code) :=
    (pss_cons (ps_if (pt_not (pt_tru (pe_call G_is_value (hr.mono (by decide)) (by rfl) Y.g_is_value Y.F_is_value.kp Y.b_is_value .nil pass0 (pa_cons (pv 0) pa_nil)) (by intro _; rfl))) (pss_one (ps_raiseE rfl (takes_of rfl rfl rfl rfl) PySem.F.excBase_ValueError Y.e_InvalidValue Y.q_InvalidValue Y.k_InvalidValue (raises_own Y.s_InvalidValue Y.t_InvalidValue) (by rfl))) pss_nil)
    (pss_cons (ps_if (pt_cmpR op_IS (pv 0) pe_non (nomark _)) (pss_one (ps_ret pe_str)) pss_nil)
    (pss_cons (ps_if (pt_cmpR op_IS (pe_callTy call_type1 (by rfl) Y.m_type (by decide +kernel) (pa_cons (pv 0) pa_nil)) (pe_bltn (v := .ty "bool") (by rfl) Y.m_bool (by decide +kernel) rfl) (nomark _)) (pss_one (ps_ret (pe_ifExp (pt_tru (pv 0) (by intro _; rfl)) pe_str pe_str))) pss_nil)
    (pss_cons (ps_if (pt_cmpR op_IS (pe_callTy call_type1 (by rfl) Y.m_type (by decide +kernel) (pa_cons (pv 0) pa_nil)) (pe_bltn (v := .ty "int") (by rfl) Y.m_int (by decide +kernel) rfl) (nomark _)) (pss_one (ps_ret (pe_call G_integer_code (hr.mono (by decide)) (by rfl) Y.g_integer_code Y.F_integer_code.kp Y.b_integer_code .nil pass0 (pa_cons (pv 0) pa_nil)))) pss_nil)
    (pss_one (ps_ret (pe_opK op_ADD (pe_callT G_text_code (hr.mono (by decide)) (by rfl) Y.g_text_code Y.F_text_code.kp Y.b_text_code pass0 (pa_cons (pv 0) pa_nil)))))))))
def t_integer_code (K : PySem.W.Frag)  : TS :=
    (tSeq (tIfS (tTest (tOp (rEQ K) (tVar 0) (tC (.int 0)))) (tRet (tC (.str "o"))) tNext)
    (tSeq (tAsg (tCB rSTR (tCons (tCB rABS (tCons (tVar 0) tNil)) tNil)) (gName 1))
    (tSeq (tIfS (tTest (tOp rGT (tVar 0) (tC (.int 0)))) (tRet (tOp (rADD K) (tOp (rADD K) (tC (.str "p")) (tOp (rIX K) (tC (.str "@ABCDEFGHIJKLMNOPQRSTUVWXYZ[\\]^_`")) (tCB (rLEN K) (tCons (tVar 1) tNil)))) (tVar 1))) tNext)
    (tRet (tOp (rADD K) (tOp (rADD K) (tC (.str "n")) (tOp (rIX K) (tC (.str "@ABCDEFGHIJKLMNOPQRSTUVWXYZ[\\]^_`")) (tOp rSUB (tC (.int 32)) (tCB (rLEN K) (tCons (tVar 1) tNil))))) (tBM K "str" (rJoin K) (tC (.str "")) (tCons (tLc (iStr (tVar 1)) (gName 2) tYes (tOp (rIX K) (tC (.str "9876543210")) (tCB rINT (tCons (tVar 2) tNil))) [2]) tNil)))))))
theorem b_integer_code (Y : Fx K mg)   {f : Addr} {cdv : Value} {A : Around} {outer : List Env} {s : Shared} {H : Hp} {E : XK} (hr : Room 0 (A.deeper (envOfC "integer_code" (defScope s_integer_code) s.heap.objs.size f cdv))) :
    PSs (cxOf CX0 P w K mg base ["value", "digits", "digit"] "integer_code" (defScope s_integer_code) f cdv A outer s H E).nox (defBody s_integer_code) (t_integer_code K ) :=
    (pss_cons (ps_if (pt_cmpR (op_EQ (hu_64 hr)) (pv 0) pe_int (nomark _)) (pss_one (ps_ret pe_str)) pss_nil)
    (pss_cons (ps_set (i := 1) sc_integer_code.nd rfl (Or.inl rfl) (pe_callTy call_STR (by rfl) Y.m_str (by decide +kernel) (pa_cons (pe_callB call_ABS (by rfl) Y.m_abs (by decide +kernel) (pa_cons (pv 0) pa_nil)) pa_nil)))
    (pss_cons (ps_if (pt_cmpR op_GT (pv 0) pe_int (nomark _)) (pss_one (ps_ret (pe_op op_ADD (pe_op op_ADD pe_str (pe_ix ix_SEQ (pe_cS (by rfl) Y.c_COUNT_SIGNS) (pe_callB call_LEN (by rfl) Y.m_len (by decide +kernel) (pa_cons (pv 1) pa_nil)) (fun _ _ => rfl))) (pv 1)))) pss_nil)
    (pss_one (ps_ret (pe_op op_ADD (pe_op op_ADD pe_str (pe_ix ix_SEQ (pe_cS (by rfl) Y.c_COUNT_SIGNS) (pe_op op_SUB pe_int (pe_callB call_LEN (by rfl) Y.m_len (by decide +kernel) (pa_cons (pv 1) pa_nil))) (fun _ _ => rfl))) (pe_bm PySem.F.plainAttrs_str PySem.F.slot_str_join PySem.F.type_str_join mt_join pe_str (pa_cons (pe_lc (own := [("digit", 2)]) (by rfl) sc_integer_code.nd (pi_str (pv 1)) (blkOk_by (own := [("digit", 2)]) (N := ["value", "digits", "digit"]) (sc := defScope s_integer_code) (by decide +kernel)) (fun _ _ _ _ _ => (pg_name (i := 2) sc_integer_code.nd rfl (Or.inl rfl))) (fun _ _ _ _ _ => pts_nil) (fun _ _ _ _ _ => (pe_ix ix_SEQ (pe_cS (by rfl) Y.c_NINES_LESS) (pe_callTy call_INT (by rfl) Y.m_int (by decide +kernel) (pa_cons (pv 2) pa_nil)) (fun _ _ => rfl)))) pa_nil))))))))
def t_text_code (K : PySem.W.Frag)  : TS :=
    (tRet (tOp (rADD K) (tRepl " " "!a" (tRepl "!" "!b" (tVar 0))) (tC (.str " "))))
theorem b_text_code (Y : Fx K mg)   {f : Addr} {cdv : Value} {A : Around} {outer : List Env} {s : Shared} {H : Hp} {E : XK} (hr : Room 0 (A.deeper (envOfC "text_code" (defScope s_text_code) s.heap.objs.size f cdv))) :
    PSsT (cxOf CX0 P w K mg base ["text"] "text_code" (defScope s_text_code) f cdv A outer s H E) (defBody s_text_code) (t_text_code K ) :=
    (psst_one (pst_ret (pet_op op_ADD (pet_repl (pet_repl (PET.of (pv 0)) (by decide)) (by decide)) pe_str)))
def t__law_jar (K : PySem.W.Frag)  : TS :=
    (tSeq (tAsg (tOp rMOD (tCB rINT (tCons (tVar 0) tNil)) (tOp (rMUL K) (tOp (rMUL K) (tOp rPOW (tC (.int 10)) (tC (.int 64))) (tOp rPOW (tC (.int 10)) (tC (.int 64)))) (tOp rPOW (tC (.int 10)) (tC (.int 64))))) (gName 0))
    (tRet (tLst (tCons (tCB rMAX2 (tCons (tC (.int 0)) (tCons (tOp rSUB (tVar 0) (tOp rPOW (tC (.int 10)) (tC (.int 18)))) tNil))) (tCons (tOp (rADD K) (tOp rMOD (tVar 0) (tC (.int 2147483629))) (tC (.int 3))) tNil)))))
theorem b__law_jar (Y : Fx K mg)   {f : Addr} {cdv : Value} {A : Around} {outer : List Env} {s : Shared} {H : Hp} {E : XK} (hr : Room 0 (A.deeper (envOfC "_law_jar" (defScope s__law_jar) s.heap.objs.size f cdv))) :
    PSs (cxOf CX0 P w K mg base ["_law_cell"] "_law_jar" (defScope s__law_jar) f cdv A outer s H E).nox (defBody s__law_jar) (t__law_jar K ) :=
    (pss_cons (ps_set (i := 0) sc__law_jar.nd rfl (Or.inl rfl) (pe_op op_MOD (pe_callTy call_INT (by rfl) Y.m_int (by decide +kernel) (pa_cons (pv 0) pa_nil)) (pe_op op_MUL (pe_op op_MUL (pe_op op_POW pe_int pe_int) (pe_op op_POW pe_int pe_int)) (pe_op op_POW pe_int pe_int))))
    (pss_one (ps_ret (pe_lst (pa_cons (pe_callB (call_MAX2 rfl) (by rfl) Y.m_max (by decide +kernel) (pa_cons pe_int (pa_cons (pe_op op_SUB (pv 0) (pe_op op_POW pe_int pe_int)) pa_nil))) (pa_cons (pe_op op_ADD (pe_op op_MOD (pv 0) pe_int) pe_int) pa_nil))))))
def t__law_drawn (K : PySem.W.Frag)  : TS :=
    (tSeq (tIfS (tTest (tOp rGT (tOp (rIX K) (tVar 0) (tC (.int 0))) (tC (.int 0)))) (tSeq (tAsg (tOp rMOD (tCB rINT (tCons (tOp (rIX K) (tVar 0) (tC (.int 0))) tNil)) (tVar 1)) (gName 2))
      (tSeq (tAsg (tOp rFDIV (tOp (rIX K) (tVar 0) (tC (.int 0))) (tVar 1)) (gSub (tVar 0) (tC (.int 0)) rSetL))
      (tRet (tVar 2)))) tNext)
    (tSeq (tAsg (tOp rMOD (tCB rINT (tCons (tOp (rADD K) (tOp (rMUL K) (tOp (rIX K) (tVar 0) (tC (.int 1))) (tC (.int 48271))) (tC (.int 12820163))) tNil)) (tC (.int 2147483647))) (gSub (tVar 0) (tC (.int 1)) rSetL))
    (tRet (tOp rMOD (tOp rFDIV (tOp rMOD (tCB rINT (tCons (tOp (rMUL K) (tOp (rIX K) (tVar 0) (tC (.int 1))) (tOp (rIX K) (tVar 0) (tC (.int 1)))) tNil)) (tC (.int 2147483629))) (tC (.int 64))) (tVar 1)))))
theorem b__law_drawn (Y : Fx K mg)   {f : Addr} {cdv : Value} {A : Around} {outer : List Env} {s : Shared} {H : Hp} {E : XK} (hr : Room 0 (A.deeper (envOfC "_law_drawn" (defScope s__law_drawn) s.heap.objs.size f cdv))) :
    PSs (cxOf CX0 P w K mg base ["_law_jar_here", "_law_many", "_law_digit"] "_law_drawn" (defScope s__law_drawn) f cdv A outer s H E).nox (defBody s__law_drawn) (t__law_drawn K ) :=
    (pss_cons (ps_if (pt_cmpR op_GT (pe_ix ix_SEQ (pv 0) pe_int (fun _ _ => rfl)) pe_int (nomark _)) (pss_cons (ps_set (i := 2) sc__law_drawn.nd rfl (Or.inl rfl) (pe_op op_MOD (pe_callTy call_INT (by rfl) Y.m_int (by decide +kernel) (pa_cons (pe_ix ix_SEQ (pv 0) pe_int (fun _ _ => rfl)) pa_nil)) (pv 1)))
      (pss_cons (ps_asg (pe_op op_FDIV (pe_ix ix_SEQ (pv 0) pe_int (fun _ _ => rfl)) (pv 1)) (pg_sub (pv 0) pe_int set_list))
      (pss_one (ps_ret (pv 2))))) pss_nil)
    (pss_cons (ps_asg (pe_op op_MOD (pe_callTy call_INT (by rfl) Y.m_int (by decide +kernel) (pa_cons (pe_op op_ADD (pe_op op_MUL (pe_ix ix_SEQ (pv 0) pe_int (fun _ _ => rfl)) pe_int) pe_int) pa_nil)) pe_int) (pg_sub (pv 0) pe_int set_list))
    (pss_one (ps_ret (pe_op op_MOD (pe_op op_FDIV (pe_op op_MOD (pe_callTy call_INT (by rfl) Y.m_int (by decide +kernel) (pa_cons (pe_op op_MUL (pe_ix ix_SEQ (pv 0) pe_int (fun _ _ => rfl)) (pe_ix ix_SEQ (pv 0) pe_int (fun _ _ => rfl))) pa_nil)) pe_int) pe_int) (pv 1))))))
def t__law_signs (K : PySem.W.Frag)  : TS :=
    (tSeq (tAsg (tC (.str " !\"#$&'()*+,-./0123456789:;<=>?@ABCDEFGHIJKLMNOPQRSTUVWXYZ[\\]^_`")) (gName 0))
    (tRet (tOp (rADD K) (tVar 0) (tC (.str "abcdefghijklmnopqrstuvwxyz{|}~")))))
theorem b__law_signs (Y : Fx K mg)   {f : Addr} {cdv : Value} {A : Around} {outer : List Env} {s : Shared} {H : Hp} {E : XK} (hr : Room 0 (A.deeper (envOfC "_law_signs" (defScope s__law_signs) s.heap.objs.size f cdv))) :
    PSs (cxOf CX0 P w K mg base ["_law_signs_here"] "_law_signs" (defScope s__law_signs) f cdv A outer s H E).nox (defBody s__law_signs) (t__law_signs K ) :=
    (pss_cons (ps_set (i := 0) sc__law_signs.nd rfl (Or.inl rfl) pe_str)
    (pss_one (ps_ret (pe_op op_ADD (pv 0) pe_str))))
def t__law_code (K : PySem.W.Frag)  : TS :=
    (tSeq (tIfS (tOr (tTest (tOp (rIS K) (tVar 0) (tC .non))) (tOr (tTest (tOp (rIS K) (tVar 0) (tC (.bl false)))) (tTest (tOp (rIS K) (tVar 0) (tC (.bl true)))))) (tRet (tIf (tTest (tOp (rIS K) (tVar 0) (tC .non))) (tC (.str "0")) (tOp (rIX K) (tLst (tCons (tC (.str "1")) (tCons (tC (.str "2")) tNil))) (tCB rINT (tCons (tVar 0) tNil))))) tNext)
    (tSeq (tAsg (tC (.str "ABCDEFGHIJKLMNOPQRSTUVWXYZ[\\]^_")) (gName 1))
    (tSeq (tIfS (tTru1 K (tCB (rISI K) (tCons (tVar 0) (tCons (tC (.ty "str")) tNil)))) (tRet (tOp (rADD K) (tOp (rADD K) (tC (.str "t")) (tBM K "str" (rJoin K) (tC (.str "")) (tCons (tLc (iStr (tVar 0)) (gName 2) tYes (tDGet2 (tDisp [((tC (.str " ")), (tC (.str "!a"))), ((tC (.str "!")), (tC (.str "!b")))]) (tVar 2) (tVar 2)) [2]) tNil))) (tC (.str " ")))) tNext)
    (tSeq (tIfS (tTest (tOp (rEQ K) (tVar 0) (tC (.int 0)))) (tRet (tC (.str "o"))) tNext)
    (tSeq (tAsg (tCB rSTR (tCons (tCB rABS (tCons (tVar 0) tNil)) tNil)) (gName 3))
    (tSeq (tIfS (tTest (tOp rGT (tVar 0) (tC (.int 0)))) (tRet (tOp (rADD K) (tOp (rADD K) (tC (.str "p")) (tOp (rIX K) (tVar 1) (tOp rSUB (tCB (rLEN K) (tCons (tVar 3) tNil)) (tC (.int 1))))) (tVar 3))) tNext)
    (tRet (tOp (rADD K) (tOp (rADD K) (tC (.str "n")) (tOp (rIX K) (tVar 1) (tOp rSUB (tC (.int 31)) (tCB (rLEN K) (tCons (tVar 3) tNil))))) (tBM K "str" (rJoin K) (tC (.str "")) (tCons (tLc (iStr (tVar 3)) (gName 4) tYes (tOp (rIX K) (tC (.str "9876543210")) (tCB rINT (tCons (tVar 4) tNil))) [4]) tNil))))))))))
theorem b__law_code (Y : Fx K mg)   {f : Addr} {cdv : Value} {A : Around} {outer : List Env} {s : Shared} {H : Hp} {E : XK} (hr : Room 0 (A.deeper (envOfC "_law_code" (defScope s__law_code) s.heap.objs.size f cdv))) :
    PSs (cxOf CX0 P w K mg base ["_law_value_here", "_law_counts", "_law_sign", "_law_digits", "_law_digit"] "_law_code" (defScope s__law_code) f cdv A outer s H E).nox (defBody s__law_code) (t__law_code K ) :=
    (pss_cons (ps_if (PW.pt (pw_or (pt_cmpR op_IS (pv 0) pe_non (nomark _)) (pw_or (pt_cmpR op_IS (pv 0) pe_bl (nomark _)) (pw_or1 (pt_cmpR op_IS (pv 0) pe_bl (nomark _)))))) (pss_one (ps_ret (pe_ifExp (pt_cmpR op_IS (pv 0) pe_non (nomark _)) pe_str (pe_ix ix_SEQ (pe_lst (pa_cons pe_str (pa_cons pe_str pa_nil))) (pe_callTy call_INT (by rfl) Y.m_int (by decide +kernel) (pa_cons (pv 0) pa_nil)) (fun _ _ => rfl))))) pss_nil)
    (pss_cons (ps_set (i := 1) sc__law_code.nd rfl (Or.inl rfl) pe_str)
    (pss_cons (ps_if (pt_tru (pe_callB call_ISI (by rfl) Y.m_isinstance (by decide +kernel) (pa_cons (pv 0) (pa_cons (pe_bltn (v := .ty "str") (by rfl) Y.m_str (by decide +kernel) rfl) pa_nil))) (by intro _; rfl)) (pss_one (ps_ret (pe_op op_ADD (pe_op op_ADD pe_str (pe_bm PySem.F.plainAttrs_str PySem.F.slot_str_join PySem.F.type_str_join mt_join pe_str (pa_cons (pe_lc (own := [("_law_sign", 2)]) (by rfl) sc__law_code.nd (pi_str (pv 0)) (blkOk_by (own := [("_law_sign", 2)]) (N := ["_law_value_here", "_law_counts", "_law_sign", "_law_digits", "_law_digit"]) (sc := defScope s__law_code) (by decide +kernel)) (fun _ _ _ _ _ => (pg_name (i := 2) sc__law_code.nd rfl (Or.inl rfl))) (fun _ _ _ _ _ => pts_nil) (fun _ _ _ _ _ => (pe_dget2 (hu_of hr) (pe_disp (pps_cons pe_str pe_str (pps_cons pe_str pe_str pps_nil)) (by rfl) (by rfl) (fun z => by cases z) (by decide)) (pv 2) (pv 2) ⟨rfl, rfl, rfl, rfl⟩))) pa_nil))) pe_str))) pss_nil)
    (pss_cons (ps_if (pt_cmpR (op_EQ (hu_64 hr)) (pv 0) pe_int (nomark _)) (pss_one (ps_ret pe_str)) pss_nil)
    (pss_cons (ps_set (i := 3) sc__law_code.nd rfl (Or.inl rfl) (pe_callTy call_STR (by rfl) Y.m_str (by decide +kernel) (pa_cons (pe_callB call_ABS (by rfl) Y.m_abs (by decide +kernel) (pa_cons (pv 0) pa_nil)) pa_nil)))
    (pss_cons (ps_if (pt_cmpR op_GT (pv 0) pe_int (nomark _)) (pss_one (ps_ret (pe_op op_ADD (pe_op op_ADD pe_str (pe_ix ix_SEQ (pv 1) (pe_op op_SUB (pe_callB call_LEN (by rfl) Y.m_len (by decide +kernel) (pa_cons (pv 3) pa_nil)) pe_int) (fun _ _ => rfl))) (pv 3)))) pss_nil)
    (pss_one (ps_ret (pe_op op_ADD (pe_op op_ADD pe_str (pe_ix ix_SEQ (pv 1) (pe_op op_SUB pe_int (pe_callB call_LEN (by rfl) Y.m_len (by decide +kernel) (pa_cons (pv 3) pa_nil))) (fun _ _ => rfl))) (pe_bm PySem.F.plainAttrs_str PySem.F.slot_str_join PySem.F.type_str_join mt_join pe_str (pa_cons (pe_lc (own := [("_law_digit", 4)]) (by rfl) sc__law_code.nd (pi_str (pv 3)) (blkOk_by (own := [("_law_digit", 4)]) (N := ["_law_value_here", "_law_counts", "_law_sign", "_law_digits", "_law_digit"]) (sc := defScope s__law_code) (by decide +kernel)) (fun _ _ _ _ _ => (pg_name (i := 4) sc__law_code.nd rfl (Or.inl rfl))) (fun _ _ _ _ _ => pts_nil) (fun _ _ _ _ _ => (pe_ix ix_SEQ pe_str (pe_callTy call_INT (by rfl) Y.m_int (by decide +kernel) (pa_cons (pv 4) pa_nil)) (fun _ _ => rfl)))) pa_nil)))))))))))
def t__law_text (K : PySem.W.Frag) (sp__law_drawn : PySem.W.Frag → Sp) (sp__law_signs : PySem.W.Frag → Sp) : TS :=
    (tSeq (tAsg (tTup (tCons (tCall (sp__law_signs K) [] E0 tNil) (tCons (tC (.str " !\"a")) (tCons (tCall (sp__law_drawn K) [] E0 (tCons (tVar 0) (tCons (tC (.int 8)) tNil))) tNil)))) (gTup K 3 (gCons (gName 1) (gCons (gName 2) (gCons (gName 3) gNil)))))
    (tSeq (tIfS (tTest (tOp (rEQ K) (tVar 3) (tC (.int 0)))) (tSeq (tAsg (tOp rSUB (tC (.int 200)) (tCall (sp__law_drawn K) [] E0 (tCons (tVar 0) (tCons (tC (.int 3)) tNil)))) (gName 4))
      (tSeq (tPar3 5 6 7 (tCons (tOp (rIX K) (tVar 1) (tCall (sp__law_drawn K) [] E0 (tCons (tVar 0) (tCons (tC (.int 94)) tNil)))) (tCons (tOp (rIX K) (tVar 2) (tCall (sp__law_drawn K) [] E0 (tCons (tVar 0) (tCons (tC (.int 4)) tNil)))) (tCons (tCall (sp__law_drawn K) [] E0 (tCons (tVar 0) (tCons (tVar 4) tNil))) tNil))))
      (tRet (tOp (rADD K) (tOp (rADD K) (tOp (rMUL K) (tVar 5) (tVar 7)) (tVar 6)) (tOp (rMUL K) (tVar 5) (tOp rSUB (tOp rSUB (tVar 4) (tVar 7)) (tC (.int 1)))))))) tNext)
    (tSeq (tIfS (tTest (tOp rLT (tVar 3) (tC (.int 5)))) (tRet (tBM K "str" (rJoin K) (tC (.str "")) (tCons (tLc (iRng1 (tCons (tCall (sp__law_drawn K) [] E0 (tCons (tVar 0) (tCons (tC (.int 5)) tNil))) tNil)) (gName 8) tYes (tOp (rIX K) (tVar 2) (tCall (sp__law_drawn K) [] E0 (tCons (tVar 0) (tCons (tC (.int 4)) tNil)))) [8]) tNil))) tNext)
    (tRet (tBM K "str" (rJoin K) (tC (.str "")) (tCons (tLc (iRng1 (tCons (tCall (sp__law_drawn K) [] E0 (tCons (tVar 0) (tCons (tC (.int 8)) tNil))) tNil)) (gName 8) tYes (tOp (rIX K) (tVar 1) (tCall (sp__law_drawn K) [] E0 (tCons (tVar 0) (tCons (tC (.int 94)) tNil)))) [8]) tNil))))))
theorem b__law_text (Y : Fx K mg) {sp__law_drawn : PySem.W.Frag → Sp} {sp__law_signs : PySem.W.Frag → Sp} (G__law_drawn : FnOk P w K mg base CX0 1 Y.a__law_drawn Y.fd__law_drawn ["_law_jar_here", "_law_many"] (sp__law_drawn K)) (G__law_signs : FnOk P w K mg base CX0 1 Y.a__law_signs Y.fd__law_signs [] (sp__law_signs K)) {f : Addr} {cdv : Value} {A : Around} {outer : List Env} {s : Shared} {H : Hp} {E : XK} (hr : Room 1 (A.deeper (envOfC "_law_text" (defScope s__law_text) s.heap.objs.size f cdv))) :
    PSs (cxOf CX0 P w K mg base ["_law_jar_here", "_law_signs_here", "_law_low", "_law_kind", "_law_size", "_law_one", "_law_other", "_law_at", "_law_k"] "_law_text" (defScope s__law_text) f cdv A outer s H E).nox (defBody s__law_text) (t__law_text K sp__law_drawn sp__law_signs) :=
    (pss_cons (ps_asg (pe_tup (pa_cons (pe_call0 G__law_signs (hr.mono (by decide)) (by rfl) Y.g__law_signs Y.F__law_signs.kp Y.b__law_signs .nil pass0) (pa_cons pe_str (pa_cons (pe_call G__law_drawn (hr.mono (by decide)) (by rfl) Y.g__law_drawn Y.F__law_drawn.kp Y.b__law_drawn .nil pass0 (pa_cons (pv 0) (pa_cons pe_int pa_nil))) pa_nil)))) (pg_tup rfl (pgs_cons (pg_name (i := 1) sc__law_text.nd rfl (Or.inr rfl)) (pgs_cons (pg_name (i := 2) sc__law_text.nd rfl (Or.inr rfl)) (pgs_cons (pg_name (i := 3) sc__law_text.nd rfl (Or.inl rfl)) pgs_nil)))))
    (pss_cons (ps_if (pt_cmpR (op_EQ (hu_64 hr)) (pv 3) pe_int (nomark _)) (pss_cons (ps_set (i := 4) sc__law_text.nd rfl (Or.inl rfl) (pe_op op_SUB pe_int (pe_call G__law_drawn (hr.mono (by decide)) (by rfl) Y.g__law_drawn Y.F__law_drawn.kp Y.b__law_drawn .nil pass0 (pa_cons (pv 0) (pa_cons pe_int pa_nil)))))
      (pss_cons (ps_par3 (i := 5) (j := 6) (l := 7) (by rfl) sc__law_text.nd rfl rfl rfl (by decide) (by decide) (by decide) rfl rfl rfl (pa_cons (pe_ix ix_SEQ (pv 1) (pe_call G__law_drawn (hr.mono (by decide)) (by rfl) Y.g__law_drawn Y.F__law_drawn.kp Y.b__law_drawn .nil pass0 (pa_cons (pv 0) (pa_cons pe_int pa_nil))) (fun _ _ => rfl)) (pa_cons (pe_ix ix_SEQ (pv 2) (pe_call G__law_drawn (hr.mono (by decide)) (by rfl) Y.g__law_drawn Y.F__law_drawn.kp Y.b__law_drawn .nil pass0 (pa_cons (pv 0) (pa_cons pe_int pa_nil))) (fun _ _ => rfl)) (pa_cons (pe_call G__law_drawn (hr.mono (by decide)) (by rfl) Y.g__law_drawn Y.F__law_drawn.kp Y.b__law_drawn .nil pass0 (pa_cons (pv 0) (pa_cons (pv 4) pa_nil))) pa_nil))) (by rfl))
      (pss_one (ps_ret (pe_op op_ADD (pe_op op_ADD (pe_op op_MUL (pv 5) (pv 7)) (pv 6)) (pe_op op_MUL (pv 5) (pe_op op_SUB (pe_op op_SUB (pv 4) (pv 7)) pe_int))))))) pss_nil)
    (pss_cons (ps_if (pt_cmpR op_LT (pv 3) pe_int (nomark _)) (pss_one (ps_ret (pe_bm PySem.F.plainAttrs_str PySem.F.slot_str_join PySem.F.type_str_join mt_join pe_str (pa_cons (pe_lc (own := [("_law_k", 8)]) (by rfl) sc__law_text.nd (pi_range1 (by rfl) Y.m_range (pa_cons (pe_call G__law_drawn (hr.mono (by decide)) (by rfl) Y.g__law_drawn Y.F__law_drawn.kp Y.b__law_drawn .nil pass0 (pa_cons (pv 0) (pa_cons pe_int pa_nil))) pa_nil)) (blkOk_by (own := [("_law_k", 8)]) (N := ["_law_jar_here", "_law_signs_here", "_law_low", "_law_kind", "_law_size", "_law_one", "_law_other", "_law_at", "_law_k"]) (sc := defScope s__law_text) (by decide +kernel)) (fun _ _ _ _ _ => (pg_name (i := 8) sc__law_text.nd rfl (Or.inl rfl))) (fun _ _ _ _ _ => pts_nil) (fun _ _ _ _ _ => (pe_ix ix_SEQ (pv 2) (pe_call G__law_drawn (hr.mono (by decide)) (by rfl) Y.g__law_drawn Y.F__law_drawn.kp Y.b__law_drawn .nil pass0 (pa_cons (pv 0) (pa_cons pe_int pa_nil))) (fun _ _ => rfl)))) pa_nil)))) pss_nil)
    (pss_one (ps_ret (pe_bm PySem.F.plainAttrs_str PySem.F.slot_str_join PySem.F.type_str_join mt_join pe_str (pa_cons (pe_lc (own := [("_law_k", 8)]) (by rfl) sc__law_text.nd (pi_range1 (by rfl) Y.m_range (pa_cons (pe_call G__law_drawn (hr.mono (by decide)) (by rfl) Y.g__law_drawn Y.F__law_drawn.kp Y.b__law_drawn .nil pass0 (pa_cons (pv 0) (pa_cons pe_int pa_nil))) pa_nil)) (blkOk_by (own := [("_law_k", 8)]) (N := ["_law_jar_here", "_law_signs_here", "_law_low", "_law_kind", "_law_size", "_law_one", "_law_other", "_law_at", "_law_k"]) (sc := defScope s__law_text) (by decide +kernel)) (fun _ _ _ _ _ => (pg_name (i := 8) sc__law_text.nd rfl (Or.inl rfl))) (fun _ _ _ _ _ => pts_nil) (fun _ _ _ _ _ => (pe_ix ix_SEQ (pv 1) (pe_call G__law_drawn (hr.mono (by decide)) (by rfl) Y.g__law_drawn Y.F__law_drawn.kp Y.b__law_drawn .nil pass0 (pa_cons (pv 0) (pa_cons pe_int pa_nil))) (fun _ _ => rfl)))) pa_nil)))))))
def t__law_number (K : PySem.W.Frag) (sp__law_drawn : PySem.W.Frag → Sp) : TS :=
    (tSeq (tPar3 1 2 3 (tCons (tCall (sp__law_drawn K) [] E0 (tCons (tVar 0) (tCons (tC (.int 8)) tNil))) (tCons (tOp (rADD K) (tC (.int 1)) (tCall (sp__law_drawn K) [] E0 (tCons (tVar 0) (tCons (tC (.int 30)) tNil)))) (tCons (tCall (sp__law_drawn K) [] E0 (tCons (tVar 0) (tCons (tC (.int 2)) tNil))) tNil))))
    (tSeq (tAsg (tC (.int 1)) (gName 4))
    (tSeq (tFor (iRng1 (tCons (tOp rSUB (tVar 2) (tC (.int 1))) tNil)) (gName 5) (tAsg (tOp (rMUL K) (tVar 4) (tC (.int 10))) (gName 4)))
    (tSeq (tIfS (tTest (tOp rLT (tVar 1) (tC (.int 2)))) (tAsg (tCall (sp__law_drawn K) [] E0 (tCons (tVar 0) (tCons (tC (.int 12)) tNil))) (gName 6)) (tIfS (tTest (tOp rLT (tVar 1) (tC (.int 5)))) (tAsg (tOp (rIX K) (tLst (tCons (tVar 4) (tCons (tOp rSUB (tOp (rMUL K) (tVar 4) (tC (.int 10))) (tC (.int 1))) tNil))) (tOp rMOD (tCB rINT (tCons (tVar 1) tNil)) (tC (.int 2)))) (gName 6)) (tSeq (tAsg (tOp (rADD K) (tC (.int 1)) (tCall (sp__law_drawn K) [] E0 (tCons (tVar 0) (tCons (tC (.int 9)) tNil)))) (gName 6))
        (tFor (iRng1 (tCons (tOp rSUB (tVar 2) (tC (.int 1))) tNil)) (gName 5) (tAsg (tOp (rADD K) (tOp (rMUL K) (tVar 6) (tC (.int 10))) (tCall (sp__law_drawn K) [] E0 (tCons (tVar 0) (tCons (tC (.int 10)) tNil)))) (gName 6))))))
    (tRet (tIf (tTest (tOp (rEQ K) (tVar 3) (tC (.int 0)))) (tVar 6) (tOp rSUB (tC (.int 0)) (tVar 6))))))))
theorem b__law_number (Y : Fx K mg) {sp__law_drawn : PySem.W.Frag → Sp} (G__law_drawn : FnOk P w K mg base CX0 1 Y.a__law_drawn Y.fd__law_drawn ["_law_jar_here", "_law_many"] (sp__law_drawn K)) {f : Addr} {cdv : Value} {A : Around} {outer : List Env} {s : Shared} {H : Hp} {E : XK} (hr : Room 1 (A.deeper (envOfC "_law_number" (defScope s__law_number) s.heap.objs.size f cdv))) :
    PSs (cxOf CX0 P w K mg base ["_law_jar_here", "_law_kind", "_law_many", "_law_below", "_law_power", "_law_k", "_law_found"] "_law_number" (defScope s__law_number) f cdv A outer s H E).nox (defBody s__law_number) (t__law_number K sp__law_drawn) :=
    (pss_cons (ps_par3 (i := 1) (j := 2) (l := 3) (by rfl) sc__law_number.nd rfl rfl rfl (by decide) (by decide) (by decide) rfl rfl rfl (pa_cons (pe_call G__law_drawn (hr.mono (by decide)) (by rfl) Y.g__law_drawn Y.F__law_drawn.kp Y.b__law_drawn .nil pass0 (pa_cons (pv 0) (pa_cons pe_int pa_nil))) (pa_cons (pe_op op_ADD pe_int (pe_call G__law_drawn (hr.mono (by decide)) (by rfl) Y.g__law_drawn Y.F__law_drawn.kp Y.b__law_drawn .nil pass0 (pa_cons (pv 0) (pa_cons pe_int pa_nil)))) (pa_cons (pe_call G__law_drawn (hr.mono (by decide)) (by rfl) Y.g__law_drawn Y.F__law_drawn.kp Y.b__law_drawn .nil pass0 (pa_cons (pv 0) (pa_cons pe_int pa_nil))) pa_nil))) (by rfl))
    (pss_cons (ps_set (i := 4) sc__law_number.nd rfl (Or.inl rfl) pe_int)
    (pss_cons (ps_for PassesOwn.never rfl (pi_range1 (by rfl) Y.m_range (pa_cons (pe_op op_SUB (pv 2) pe_int) pa_nil)) (pg_name (i := 5) sc__law_number.nd rfl (Or.inl rfl)) (pss_one (ps_set (i := 4) sc__law_number.nd rfl (Or.inl rfl) (pe_op op_MUL (pv 4) pe_int))))
    (pss_cons (ps_if (pt_cmpR op_LT (pv 1) pe_int (nomark _)) (pss_one (ps_set (i := 6) sc__law_number.nd rfl (Or.inl rfl) (pe_call G__law_drawn (hr.mono (by decide)) (by rfl) Y.g__law_drawn Y.F__law_drawn.kp Y.b__law_drawn .nil pass0 (pa_cons (pv 0) (pa_cons pe_int pa_nil))))) (pss_one (ps_if (pt_cmpR op_LT (pv 1) pe_int (nomark _)) (pss_one (ps_set (i := 6) sc__law_number.nd rfl (Or.inl rfl) (pe_ix ix_SEQ (pe_lst (pa_cons (pv 4) (pa_cons (pe_op op_SUB (pe_op op_MUL (pv 4) pe_int) pe_int) pa_nil))) (pe_op op_MOD (pe_callTy call_INT (by rfl) Y.m_int (by decide +kernel) (pa_cons (pv 1) pa_nil)) pe_int) (fun _ _ => rfl)))) (pss_cons (ps_set (i := 6) sc__law_number.nd rfl (Or.inl rfl) (pe_op op_ADD pe_int (pe_call G__law_drawn (hr.mono (by decide)) (by rfl) Y.g__law_drawn Y.F__law_drawn.kp Y.b__law_drawn .nil pass0 (pa_cons (pv 0) (pa_cons pe_int pa_nil)))))
        (pss_one (ps_for PassesOwn.never rfl (pi_range1 (by rfl) Y.m_range (pa_cons (pe_op op_SUB (pv 2) pe_int) pa_nil)) (pg_name (i := 5) sc__law_number.nd rfl (Or.inl rfl)) (pss_one (ps_set (i := 6) sc__law_number.nd rfl (Or.inl rfl) (pe_op op_ADD (pe_op op_MUL (pv 6) pe_int) (pe_call G__law_drawn (hr.mono (by decide)) (by rfl) Y.g__law_drawn Y.F__law_drawn.kp Y.b__law_drawn .nil pass0 (pa_cons (pv 0) (pa_cons pe_int pa_nil))))))))))))
    (pss_one (ps_ret (pe_ifExp (pt_cmpR (op_EQ (hu_64 hr)) (pv 3) pe_int (nomark _)) (pv 6) (pe_op op_SUB pe_int (pv 6)))))))))
def t__law_value (K : PySem.W.Frag) (sp__law_drawn : PySem.W.Frag → Sp) (sp__law_number : PySem.W.Frag → Sp) (sp__law_text : PySem.W.Frag → Sp) : TS :=
    (tSeq (tAsg (tCall (sp__law_drawn K) [] E0 (tCons (tVar 0) (tCons (tC (.int 9)) tNil))) (gName 1))
    (tSeq (tIfS (tTest (tOp rLT (tVar 1) (tC (.int 3)))) (tRet (tOp (rIX K) (tLst (tCons (tC .non) (tCons (tC (.bl false)) (tCons (tC (.bl true)) tNil)))) (tVar 1))) tNext)
    (tRet (tIf (tTest (tOp rLT (tVar 1) (tC (.int 6)))) (tCall (sp__law_number K) [] E0 (tCons (tVar 0) tNil)) (tCall (sp__law_text K) [] E0 (tCons (tVar 0) tNil))))))
theorem b__law_value (Y : Fx K mg) {sp__law_drawn : PySem.W.Frag → Sp} {sp__law_number : PySem.W.Frag → Sp} {sp__law_text : PySem.W.Frag → Sp} (G__law_drawn : FnOk P w K mg base CX0 1 Y.a__law_drawn Y.fd__law_drawn ["_law_jar_here", "_law_many"] (sp__law_drawn K)) (G__law_number : FnOk P w K mg base CX0 2 Y.a__law_number Y.fd__law_number ["_law_jar_here"] (sp__law_number K)) (G__law_text : FnOk P w K mg base CX0 2 Y.a__law_text Y.fd__law_text ["_law_jar_here"] (sp__law_text K)) {f : Addr} {cdv : Value} {A : Around} {outer : List Env} {s : Shared} {H : Hp} {E : XK} (hr : Room 2 (A.deeper (envOfC "_law_value" (defScope s__law_value) s.heap.objs.size f cdv))) :
    PSs (cxOf CX0 P w K mg base ["_law_jar_here", "_law_kind"] "_law_value" (defScope s__law_value) f cdv A outer s H E).nox (defBody s__law_value) (t__law_value K sp__law_drawn sp__law_number sp__law_text) :=
    (pss_cons (ps_set (i := 1) sc__law_value.nd rfl (Or.inl rfl) (pe_call G__law_drawn (hr.mono (by decide)) (by rfl) Y.g__law_drawn Y.F__law_drawn.kp Y.b__law_drawn .nil pass0 (pa_cons (pv 0) (pa_cons pe_int pa_nil))))
    (pss_cons (ps_if (pt_cmpR op_LT (pv 1) pe_int (nomark _)) (pss_one (ps_ret (pe_ix ix_SEQ (pe_lst (pa_cons pe_non (pa_cons pe_bl (pa_cons pe_bl pa_nil)))) (pv 1) (fun _ _ => rfl)))) pss_nil)
    (pss_one (ps_ret (pe_ifExp (pt_cmpR op_LT (pv 1) pe_int (nomark _)) (pe_call G__law_number (hr.mono (by decide)) (by rfl) Y.g__law_number Y.F__law_number.kp Y.b__law_number .nil pass0 (pa_cons (pv 0) pa_nil)) (pe_call G__law_text (hr.mono (by decide)) (by rfl) Y.g__law_text Y.F__law_text.kp Y.b__law_text .nil pass0 (pa_cons (pv 0) pa_nil)))))))
def t__law_bent (K : PySem.W.Frag) (sp__law_drawn : PySem.W.Frag → Sp) (sp__law_text : PySem.W.Frag → Sp) : TS :=
    (tSeq (tPar 1 2 (tCons (tCall (sp__law_drawn K) [] E0 (tCons (tVar 0) (tCons (tC (.int 20)) tNil))) (tCons (tCall (sp__law_drawn K) [] E0 (tCons (tVar 0) (tCons (tC (.int 2)) tNil))) tNil)))
    (tSeq (tAsg (tOp (rADD K) (tOp (rMUL K) (tOp rPOW (tC (.int 10)) (tC (.int 30))) (tOp (rADD K) (tC (.int 1)) (tCall (sp__law_drawn K) [] E0 (tCons (tVar 0) (tCons (tC (.int 9)) tNil))))) (tOp (rMUL K) (tCall (sp__law_drawn K) [] E0 (tCons (tVar 0) (tCons (tC (.int 10)) tNil))) (tOp rPOW (tC (.int 10)) (tC (.int 20))))) (gName 3))
    (tSeq (tAsg (tCall (sp__law_text K) [] E0 (tCons (tVar 0) tNil)) (gName 4))
    (tSeq (tAsg (tOp (rMUL K) (tOp (rIX K) (tLst (tCons (tC (.str " ")) (tCons (tC (.str "a")) tNil))) (tVar 2)) (tOp rSUB (tC (.int 201)) (tCB (rLEN K) (tCons (tVar 4) tNil)))) (gName 5))
    (tSeq (tAsg (tLst (tCons (tOp (rADD K) (tVar 4) (tVar 5)) (tCons (tOp (rADD K) (tVar 5) (tVar 4)) (tCons (tVar 3) (tCons (tOp rSUB (tC (.int 0)) (tVar 3)) (tCons (tOp rPOW (tC (.int 10)) (tC (.int 30))) (tCons (tOp rSUB (tC (.int 0)) (tOp rPOW (tC (.int 10)) (tC (.int 30)))) (tCons (tOp rPOW (tC (.int 10)) (tC (.int 60))) (tCons (tOp (rADD K) (tSl (rSL K) (tVar 4) tNoPart (tPart (tC (.int 9)))) (tC (.str "\n"))) (tCons (tOp (rADD K) (tC (.str "\t")) (tSl (rSL K) (tVar 4) tNoPart (tPart (tC (.int 9))))) tNil)))))))))) (gName 6))
    (tSeq (tAsg (tOp (rADD K) (tVar 6) (tLst (tCons (tOp (rADD K) (tOp (rADD K) (tVar 4) (tVar 5)) (tVar 4)) (tCons (tTup tNil) (tCons (tTup (tCons (tC (.int 1)) tNil)) (tCons (tLst (tCons (tC (.int 1)) tNil)) (tCons (tTup (tCons (tC (.str "a")) tNil)) (tCons (tLst tNil) (tCons (tLst (tCons (tC (.str "a")) tNil)) (tCons (tTup (tCons (tC .non) tNil)) (tCons (tC (.str "a\nb")) (tCons (tLst (tCons (tVar 4) tNil)) (tCons (tTup (tCons (tVar 4) tNil)) tNil))))))))))))) (gName 6))
    (tRet (tOp (rIX K) (tVar 6) (tVar 1)))))))))
theorem b__law_bent (Y : Fx K mg) {sp__law_drawn : PySem.W.Frag → Sp} {sp__law_text : PySem.W.Frag → Sp} (G__law_drawn : FnOk P w K mg base CX0 1 Y.a__law_drawn Y.fd__law_drawn ["_law_jar_here", "_law_many"] (sp__law_drawn K)) (G__law_text : FnOk P w K mg base CX0 2 Y.a__law_text Y.fd__law_text ["_law_jar_here"] (sp__law_text K)) {f : Addr} {cdv : Value} {A : Around} {outer : List Env} {s : Shared} {H : Hp} {E : XK} (hr : Room 2 (A.deeper (envOfC "_law_bent" (defScope s__law_bent) s.heap.objs.size f cdv))) :
    PSs (cxOf CX0 P w K mg base ["_law_jar_here", "_law_at", "_law_side", "_law_power", "_law_text_here", "_law_rest", "_law_menu"] "_law_bent" (defScope s__law_bent) f cdv A outer s H E).nox (defBody s__law_bent) (t__law_bent K sp__law_drawn sp__law_text) :=
    (pss_cons (ps_par (i := 1) (j := 2) (by rfl) sc__law_bent.nd rfl rfl (by decide) rfl rfl (pa_cons (pe_call G__law_drawn (hr.mono (by decide)) (by rfl) Y.g__law_drawn Y.F__law_drawn.kp Y.b__law_drawn .nil pass0 (pa_cons (pv 0) (pa_cons pe_int pa_nil))) (pa_cons (pe_call G__law_drawn (hr.mono (by decide)) (by rfl) Y.g__law_drawn Y.F__law_drawn.kp Y.b__law_drawn .nil pass0 (pa_cons (pv 0) (pa_cons pe_int pa_nil))) pa_nil)) (by rfl))
    (pss_cons (ps_set (i := 3) sc__law_bent.nd rfl (Or.inl rfl) (pe_op op_ADD (pe_op op_MUL (pe_op op_POW pe_int pe_int) (pe_op op_ADD pe_int (pe_call G__law_drawn (hr.mono (by decide)) (by rfl) Y.g__law_drawn Y.F__law_drawn.kp Y.b__law_drawn .nil pass0 (pa_cons (pv 0) (pa_cons pe_int pa_nil))))) (pe_op op_MUL (pe_call G__law_drawn (hr.mono (by decide)) (by rfl) Y.g__law_drawn Y.F__law_drawn.kp Y.b__law_drawn .nil pass0 (pa_cons (pv 0) (pa_cons pe_int pa_nil))) (pe_op op_POW pe_int pe_int))))
    (pss_cons (ps_set (i := 4) sc__law_bent.nd rfl (Or.inl rfl) (pe_call G__law_text (hr.mono (by decide)) (by rfl) Y.g__law_text Y.F__law_text.kp Y.b__law_text .nil pass0 (pa_cons (pv 0) pa_nil)))
    (pss_cons (ps_set (i := 5) sc__law_bent.nd rfl (Or.inl rfl) (pe_op op_MUL (pe_ix ix_SEQ (pe_lst (pa_cons pe_str (pa_cons pe_str pa_nil))) (pv 2) (fun _ _ => rfl)) (pe_op op_SUB pe_int (pe_callB call_LEN (by rfl) Y.m_len (by decide +kernel) (pa_cons (pv 4) pa_nil)))))
    (pss_cons (ps_set (i := 6) sc__law_bent.nd rfl (Or.inl rfl) (pe_lst (pa_cons (pe_op op_ADD (pv 4) (pv 5)) (pa_cons (pe_op op_ADD (pv 5) (pv 4)) (pa_cons (pv 3) (pa_cons (pe_op op_SUB pe_int (pv 3)) (pa_cons (pe_op op_POW pe_int pe_int) (pa_cons (pe_op op_SUB pe_int (pe_op op_POW pe_int pe_int)) (pa_cons (pe_op op_POW pe_int pe_int) (pa_cons (pe_op op_ADD (pe_slice sl_SEQ (pv 4) po_none (po_some pe_int)) pe_str) (pa_cons (pe_op op_ADD pe_str (pe_slice sl_SEQ (pv 4) po_none (po_some pe_int))) pa_nil)))))))))))
    (pss_cons (ps_set (i := 6) sc__law_bent.nd rfl (Or.inl rfl) (pe_op op_ADD (pv 6) (pe_lst (pa_cons (pe_op op_ADD (pe_op op_ADD (pv 4) (pv 5)) (pv 4)) (pa_cons (pe_tup pa_nil) (pa_cons (pe_tup (pa_cons pe_int pa_nil)) (pa_cons (pe_lst (pa_cons pe_int pa_nil)) (pa_cons (pe_tup (pa_cons pe_str pa_nil)) (pa_cons (pe_lst pa_nil) (pa_cons (pe_lst (pa_cons pe_str pa_nil)) (pa_cons (pe_tup (pa_cons pe_non pa_nil)) (pa_cons pe_str (pa_cons (pe_lst (pa_cons (pv 4) pa_nil)) (pa_cons (pe_tup (pa_cons (pv 4) pa_nil)) pa_nil))))))))))))))
    (pss_one (ps_ret (pe_ix ix_SEQ (pv 6) (pv 1) (fun _ _ => rfl))))))))))
def t__law_told (K : PySem.W.Frag) {mg : Str → Option Value} (Y : Fx K mg) (sp_value_code : PySem.W.Frag → Sp) : TS :=
    (tSeq (tAsg (tC (.str "other")) (gName 1))
    (tSeq (tTry K W0 [(.ref Y.x_InvalidValue, fun _ _ _ => (tAsg (tC (.str "value")) (gName 1))), (.ref Y.x_StoreError, fun _ _ _ => (tAsg (tC (.str "other")) (gName 1)))] (fun W => (tAsg (tTup (tCons (tCallS (sp_value_code K) (WE W) (tCons (tVar 0) tNil)) tNil)) (gName 1))))
    (tRet (tVar 1))))
theorem b__law_told (Y : Fx K mg) {sp_value_code : PySem.W.Frag → Sp} (G_value_code : FnOk P w K mg base (L2.CX P w) 3 Y.a_value_code Y.fd_value_code ["value"] (sp_value_code K)) {f : Addr} {cdv : Value} {A : Around} {outer : List Env} {s : Shared} {H : Hp} {E : XK} (hr : Room 3 (A.deeper (envOfC "_law_told" (defScope s__law_told) s.heap.objs.size f cdv))) :
    PSs (cxOf CX0 P w K mg base ["_law_value_here", "_law_found"] "_law_told" (defScope s__law_told) f cdv A outer s H E).nox (defBody s__law_told) (t__law_told K Y sp_value_code) :=
    (pss_cons (ps_set (i := 1) sc__law_told.nd rfl (Or.inl rfl) pe_str)
    (pss_cons (ps_tryM (tb := fun W => (tAsg (tTup (tCons (tCallS (sp_value_code K) (WE W) (tCons (tVar 0) tNil)) tNil)) (gName 1))) (l := [(.ref Y.x_InvalidValue, fun _ _ _ => (tAsg (tC (.str "value")) (gName 1))), (.ref Y.x_StoreError, fun _ _ _ => (tAsg (tC (.str "other")) (gName 1)))]) (Wout := W0) rfl rfl takes0 (fun W pn xe tk po => (pss_one (ps_set (i := 1) sc__law_told.nd rfl (Or.inl rfl) (pe_tup (pa_cons (pe_callS G_value_code (hr.mono (by decide)) (by rfl) Y.g_value_code Y.F_value_code.kp Y.b_value_code (fun σ => passAt tk σ) (pa_cons (pv 0) pa_nil)) pa_nil))))) (.cons ⟨rfl, by decide, Or.inl Y.q_InvalidValue⟩ (fun a oe cls d pn _ _ => (pss_one (ps_set (i := 1) sc__law_told.nd rfl (Or.inl rfl) pe_str))) (.cons ⟨rfl, by decide, Or.inl Y.q_StoreError⟩ (fun a oe cls d pn _ _ => (pss_one (ps_set (i := 1) sc__law_told.nd rfl (Or.inl rfl) pe_str))) .nil)))
    (pss_one (ps_ret (pv 1)))))
def t_law (K : PySem.W.Frag) (sp__law_bent : PySem.W.Frag → Sp) (sp__law_code : PySem.W.Frag → Sp) (sp__law_jar : PySem.W.Frag → Sp) (sp__law_signs : PySem.W.Frag → Sp) (sp__law_told : PySem.W.Frag → Sp) (sp__law_value : PySem.W.Frag → Sp) (sp_value_code : PySem.W.Frag → Sp) : TS :=
    (tSeq (tAsg (tLst (tCons (tC .non) (tCons (tC (.bl false)) (tCons (tC (.bl true)) (tCons (tC (.int 0)) (tCons (tC (.int 1)) (tCons (tUn rNEG (tC (.int 1))) (tCons (tC (.int 9)) (tCons (tUn rNEG (tC (.int 9))) (tCons (tC (.int 10)) (tCons (tUn rNEG (tC (.int 10))) (tCons (tC (.int 99)) (tCons (tUn rNEG (tC (.int 99))) (tCons (tOp rSUB (tOp rPOW (tC (.int 10)) (tC (.int 30))) (tC (.int 1))) (tCons (tOp rSUB (tC (.int 1)) (tOp rPOW (tC (.int 10)) (tC (.int 30)))) (tCons (tOp rPOW (tC (.int 10)) (tC (.int 29))) (tCons (tOp rSUB (tC (.int 0)) (tOp rPOW (tC (.int 10)) (tC (.int 29)))) tNil))))))))))))))))) (gName 1))
    (tSeq (tAsg (tOp (rADD K) (tVar 1) (tLst (tCons (tC (.str "")) (tCons (tC (.str " ")) (tCons (tC (.str "!")) (tCons (tC (.str "!a")) (tCons (tC (.str "!b")) (tCons (tC (.str " a")) (tCons (tC (.str "0")) (tCons (tC (.str "t")) (tCons (tC (.str "o")) (tCons (tOp (rMUL K) (tC (.str "a")) (tC (.int 200))) (tCons (tOp (rMUL K) (tC (.str " ")) (tC (.int 200))) (tCons (tOp (rMUL K) (tC (.str "!")) (tC (.int 200))) (tCons (tCall (sp__law_signs K) [] E0 tNil) tNil))))))))))))))) (gName 1))
    (tSeq (tFor (iList K (tVar 1)) (gName 2) (tIfS (tTest (tOp (rNE K) (tCall (sp__law_told K) [] E0 (tCons (tVar 2) tNil)) (tTup (tCons (tCall (sp__law_code K) [] E0 (tCons (tVar 2) tNil)) tNil)))) (tRet (tC (.bl false))) tNext))
    (tSeq (tFor (iList K (tOp (rADD K) (tLst (tCons (tC (.int 7)) tNil)) (tSl (rSL K) (tVar 0) tNoPart (tPart (tC (.int 40)))))) (gName 3) (tSeq (tAsg (tCall (sp__law_jar K) [] E0 (tCons (tVar 3) tNil)) (gName 4))
      (tSeq (tAsg (tCall (sp__law_value K) [] E0 (tCons (tVar 4) tNil)) (gName 2))
      (tSeq (tAsg (tCall (sp__law_told K) [] E0 (tCons (tVar 2) tNil)) (gName 5))
      (tSeq (tIfS (tOr (tNot (tTru1 K (tCB (rISI K) (tCons (tVar 5) (tCons (tC (.ty "tuple")) tNil))))) (tOr (tNot (tTru1 K (tCB (rISI K) (tCons (tOp (rIX K) (tVar 5) (tC (.int 0))) (tCons (tC (.ty "str")) tNil))))) (tTest (tOp (rNE K) (tOp (rIX K) (tVar 5) (tC (.int 0))) (tCall (sp__law_code K) [] E0 (tCons (tVar 2) tNil)))))) (tRet (tC (.bl false))) tNext)
      (tIfS (tOr (tTest (tOp (rNE K) (tCall (sp__law_told K) [] E0 (tCons (tCall (sp__law_bent K) [] E0 (tCons (tVar 4) tNil)) tNil)) (tC (.str "value")))) (tTest (tOp (rNE K) (tCallK0 (sp_value_code K) gV_kb_value_code_0 E0 (tCons (tVar 2) tNil)) (tCall (sp__law_code K) [] E0 (tCons (tVar 2) tNil))))) (tRet (tC (.bl false))) tNext))))))
    (tRet (tC (.bl true)))))))
theorem b_law (Y : Fx K mg) {sp__law_bent : PySem.W.Frag → Sp} {sp__law_code : PySem.W.Frag → Sp} {sp__law_jar : PySem.W.Frag → Sp} {sp__law_signs : PySem.W.Frag → Sp} {sp__law_told : PySem.W.Frag → Sp} {sp__law_value : PySem.W.Frag → Sp} {sp_value_code : PySem.W.Frag → Sp} (G__law_bent : FnOk P w K mg base CX0 3 Y.a__law_bent Y.fd__law_bent ["_law_jar_here"] (sp__law_bent K)) (G__law_code : FnOk P w K mg base CX0 1 Y.a__law_code Y.fd__law_code ["_law_value_here"] (sp__law_code K)) (G__law_jar : FnOk P w K mg base CX0 1 Y.a__law_jar Y.fd__law_jar ["_law_cell"] (sp__law_jar K)) (G__law_signs : FnOk P w K mg base CX0 1 Y.a__law_signs Y.fd__law_signs [] (sp__law_signs K)) (G__law_told : FnOk P w K mg base CX0 4 Y.a__law_told Y.fd__law_told ["_law_value_here"] (sp__law_told K)) (G__law_value : FnOk P w K mg base CX0 3 Y.a__law_value Y.fd__law_value ["_law_jar_here"] (sp__law_value K)) (G_value_code : FnOk P w K mg base (L2.CX P w) 3 Y.a_value_code Y.fd_value_code ["value"] (sp_value_code K)) {f : Addr} {cdv : Value} {A : Around} {outer : List Env} {s : Shared} {H : Hp} {E : XK} (hr : Room 4 (A.deeper (envOfC "law" (defScope s_law) s.heap.objs.size f cdv))) :
    PSs (cxOf CX0 P w K mg base ["_law_script", "_law_edges", "_law_value_here", "_law_cell", "_law_jar_here", "_law_found"] "law" (defScope s_law) f cdv A outer s H E).nox (defBody s_law) (t_law K sp__law_bent sp__law_code sp__law_jar sp__law_signs sp__law_told sp__law_value sp_value_code) :=
    (pss_cons (ps_set (i := 1) sc_law.nd rfl (Or.inl rfl) (pe_lst (pa_cons pe_non (pa_cons pe_bl (pa_cons pe_bl (pa_cons pe_int (pa_cons pe_int (pa_cons (pe_un un_NEG pe_int) (pa_cons pe_int (pa_cons (pe_un un_NEG pe_int) (pa_cons pe_int (pa_cons (pe_un un_NEG pe_int) (pa_cons pe_int (pa_cons (pe_un un_NEG pe_int) (pa_cons (pe_op op_SUB (pe_op op_POW pe_int pe_int) pe_int) (pa_cons (pe_op op_SUB pe_int (pe_op op_POW pe_int pe_int)) (pa_cons (pe_op op_POW pe_int pe_int) (pa_cons (pe_op op_SUB pe_int (pe_op op_POW pe_int pe_int)) pa_nil))))))))))))))))))
    (pss_cons (ps_set (i := 1) sc_law.nd rfl (Or.inl rfl) (pe_op op_ADD (pv 1) (pe_lst (pa_cons pe_str (pa_cons pe_str (pa_cons pe_str (pa_cons pe_str (pa_cons pe_str (pa_cons pe_str (pa_cons pe_str (pa_cons pe_str (pa_cons pe_str (pa_cons (pe_op op_MUL pe_str pe_int) (pa_cons (pe_op op_MUL pe_str pe_int) (pa_cons (pe_op op_MUL pe_str pe_int) (pa_cons (pe_call0 G__law_signs (hr.mono (by decide)) (by rfl) Y.g__law_signs Y.F__law_signs.kp Y.b__law_signs .nil pass0) pa_nil))))))))))))))))
    (pss_cons (ps_for PassesOwn.never rfl (pi_list (pv 1)) (pg_name (i := 2) sc_law.nd rfl (Or.inl rfl)) (pss_one (ps_if (pt_cmpR (op_NE (hu_64 hr)) (pe_call G__law_told (hr.mono (by decide)) (by rfl) Y.g__law_told Y.F__law_told.kp Y.b__law_told .nil pass0 (pa_cons (pv 2) pa_nil)) (pe_tup (pa_cons (pe_call G__law_code (hr.mono (by decide)) (by rfl) Y.g__law_code Y.F__law_code.kp Y.b__law_code .nil pass0 (pa_cons (pv 2) pa_nil)) pa_nil)) (nomark _)) (pss_one (ps_ret pe_bl)) pss_nil)))
    (pss_cons (ps_for PassesOwn.never rfl (pi_list (pe_op op_ADD (pe_lst (pa_cons pe_int pa_nil)) (pe_slice sl_SEQ (pv 0) po_none (po_some pe_int)))) (pg_name (i := 3) sc_law.nd rfl (Or.inl rfl)) (pss_cons (ps_set (i := 4) sc_law.nd rfl (Or.inl rfl) (pe_call G__law_jar (hr.mono (by decide)) (by rfl) Y.g__law_jar Y.F__law_jar.kp Y.b__law_jar .nil pass0 (pa_cons (pv 3) pa_nil)))
      (pss_cons (ps_set (i := 2) sc_law.nd rfl (Or.inl rfl) (pe_call G__law_value (hr.mono (by decide)) (by rfl) Y.g__law_value Y.F__law_value.kp Y.b__law_value .nil pass0 (pa_cons (pv 4) pa_nil)))
      (pss_cons (ps_set (i := 5) sc_law.nd rfl (Or.inl rfl) (pe_call G__law_told (hr.mono (by decide)) (by rfl) Y.g__law_told Y.F__law_told.kp Y.b__law_told .nil pass0 (pa_cons (pv 2) pa_nil)))
      (pss_cons (ps_if (PW.pt (pw_or (pt_not (pt_tru (pe_callB call_ISI (by rfl) Y.m_isinstance (by decide +kernel) (pa_cons (pv 5) (pa_cons (pe_bltn (v := .ty "tuple") (by rfl) Y.m_tuple (by decide +kernel) rfl) pa_nil))) (by intro _; rfl))) (pw_or (pt_not (pt_tru (pe_callB call_ISI (by rfl) Y.m_isinstance (by decide +kernel) (pa_cons (pe_ix ix_SEQ (pv 5) pe_int (fun _ _ => rfl)) (pa_cons (pe_bltn (v := .ty "str") (by rfl) Y.m_str (by decide +kernel) rfl) pa_nil))) (by intro _; rfl))) (pw_or1 (pt_cmpR (op_NE (hu_64 hr)) (pe_ix ix_SEQ (pv 5) pe_int (fun _ _ => rfl)) (pe_call G__law_code (hr.mono (by decide)) (by rfl) Y.g__law_code Y.F__law_code.kp Y.b__law_code .nil pass0 (pa_cons (pv 2) pa_nil)) (nomark _)))))) (pss_one (ps_ret pe_bl)) pss_nil)
      (pss_one (ps_if (PW.pt (pw_or (pt_cmpR (op_NE (hu_64 hr)) (pe_call G__law_told (hr.mono (by decide)) (by rfl) Y.g__law_told Y.F__law_told.kp Y.b__law_told .nil pass0 (pa_cons (pe_call G__law_bent (hr.mono (by decide)) (by rfl) Y.g__law_bent Y.F__law_bent.kp Y.b__law_bent .nil pass0 (pa_cons (pv 4) pa_nil)) pa_nil)) pe_str (nomark _)) (pw_or1 (pt_cmpR (op_NE (hu_64 hr)) (pe_callK0 G_value_code (hr.mono (by decide)) (by rfl) Y.g_value_code Y.F_value_code.kp Y.kb_value_code_0 passL (pk_cons (pv 2) pk_nil)) (pe_call G__law_code (hr.mono (by decide)) (by rfl) Y.g__law_code Y.F__law_code.kp Y.b__law_code .nil pass0 (pa_cons (pv 2) pa_nil)) (nomark _))))) (pss_one (ps_ret pe_bl)) pss_nil)))))))
    (pss_one (ps_ret pe_bl))))))
end
end My

set_option Elab.async false
set_option linter.all false
set_option maxRecDepth 100000
set_option maxHeartbeats 1000000
namespace My
open PySem PySem.Spec PyProof.Rows L2
local macro_rules | `(tactic| walk_at "len") => `(tactic| first | assumption | omega | decide | (simp only [List.length_append, List.length_take, List.length_drop, List.length_cons, List.length_nil, List.length_replicate]; omega))
local macro_rules | `(tactic| walk_at "side") => `(tactic| first | assumption | exact Nat.zero_le _ | decide | omega)
local macro_rules | `(tactic| walk_at "rd1") => `(tactic| first
  | with_reducible refine s_seq ?_
  | with_reducible refine x_gsub ?_
  | with_reducible refine s_asg ?_
  | ((with_reducible refine s_gn ?_); dsimp only [List.set])
  | ((with_reducible refine x_var (v := ?rdv) ?rdhv ?_); (case rdhv => rfl))
  | with_reducible refine x_c ?_
  | with_reducible refine x_op ?_
  | with_reducible refine x_cons ?_
  | with_reducible refine x_nil ?_
  | with_reducible refine x_cb ?_
  | with_reducible refine x_call ?_
  | with_reducible refine x_callS ?_
  | with_reducible refine s_try ?_
  | with_reducible refine s_raise ?_
  | with_reducible refine s_if ?_
  | with_reducible refine s_ret ?_
  | with_reducible refine s_retN ?_
  | with_reducible refine s_next ?_
  | with_reducible refine s_brk ?_
  | with_reducible refine s_cont ?_
  | with_reducible refine s_drop ?_
  | with_reducible refine s_par ?_
  | with_reducible refine s_par3 ?_
  | ((with_reducible refine s_p2 ?_); dsimp only [List.set])
  | ((with_reducible refine s_p3 ?_); dsimp only [List.set])
  | with_reducible refine f_r1 ?_
  | with_reducible refine f_r2 ?_
  | with_reducible refine f_l ?_
  | with_reducible refine f_t ?_
  | with_reducible refine f_s ?_
  | with_reducible refine c_r1 ?_
  | with_reducible refine c_r2 ?_
  | with_reducible refine c_l ?_
  | with_reducible refine c_t ?_
  | with_reducible refine c_s ?_
  | with_reducible refine x_tst ?_
  | with_reducible refine x_tru ?_
  | with_reducible refine x_truB ?_
  | with_reducible refine x_bl2 ?_
  | with_reducible refine x_int ?_
  | with_reducible refine x_str ?_
  | with_reducible refine x_not ?_
  | with_reducible refine x_and ?_
  | with_reducible refine x_or ?_
  | with_reducible refine x_andV ?_
  | with_reducible refine x_orV ?_
  | with_reducible refine x_notV ?_
  | with_reducible refine x_if ?_
  | with_reducible refine x_yes ?_
  | with_reducible refine x_un ?_
  | with_reducible refine x_tup ?_
  | with_reducible refine x_lst ?_
  | with_reducible refine x_callK ?_
  | with_reducible refine x_callK0 ?_
  | with_reducible refine x_bm ?_
  | with_reducible refine x_bm0 ?_
  | with_reducible refine x_tyS ?_
  | with_reducible refine x_sl ?_
  | with_reducible refine x_nopart ?_
  | with_reducible refine x_part ?_
  | with_reducible refine x_fmt0 ?_
  | with_reducible refine x_gc ?_
  | with_reducible refine x_gz ?_
  | with_reducible refine x_ckw ?_
  | with_reducible refine x_fmt ?_
  | with_reducible refine x_chain ?_
  | with_reducible refine a_ii ?_
  | ((with_reducible refine sl_to ?rda ?rdb ?_); (case rda => walk_at "len"); (case rdb => walk_at "len"))
  | ((with_reducible refine sl_from ?rda ?rdb ?_); (case rda => walk_at "len"); (case rdb => walk_at "len"))
  | ((with_reducible refine sl_mid ?rda ?rdb ?rdc ?_); (case rda => walk_at "len"); (case rdb => walk_at "len"); (case rdc => walk_at "len"))
  | ((with_reducible refine a_SS ?rda ?_); (case rda => walk_at "len"))
  | ((with_reducible refine ln_S ?rda ?_); (case rda => walk_at "len"))
  | with_reducible refine e_SS ?_
  | with_reducible refine ne_SS ?_
  | with_reducible refine s_ii ?_
  | ((with_reducible refine md_ii ?rdc ?_); (case rdc => first | decide | assumption | omega))
  | with_reducible refine n_i ?_
  | with_reducible refine e_ii ?_
  | with_reducible refine e_bb ?_
  | with_reducible refine ne_ii ?_
  | with_reducible refine ne_bb ?_
  | with_reducible refine lt_ii ?_
  | with_reducible refine lt_ss ?_
  | with_reducible refine le_ii ?_
  | with_reducible refine gt_ii ?_
  | with_reducible refine gt_ss ?_
  | with_reducible refine ge_ii ?_
  | with_reducible refine e_ss ?_
  | with_reducible refine ne_ss ?_
  | with_reducible refine is_N ?_
  | with_reducible refine is_T ?_
  | with_reducible refine is_B ?_
  | with_reducible refine isn_N ?_
  | with_reducible refine isn_T ?_
  | with_reducible refine isn_B ?_
  | with_reducible refine in_s ?_
  | with_reducible refine nin_s ?_
  | with_reducible refine i_i ?_
  | with_reducible refine i_b ?_
  | with_reducible refine ab_i ?_
  | with_reducible refine mx_ii ?_
  | with_reducible refine mn_ii ?_
  | with_reducible refine ty_N ?_
  | with_reducible refine ty_B ?_
  | with_reducible refine ty_I ?_
  | with_reducible refine ty_S ?_
  | with_reducible refine ma_s ?_
  | with_reducible refine mp_s ?_
  | with_reducible refine mdg_s ?_
  | with_reducible refine mf_s ?_
  | with_reducible refine iteT ?_
  | with_reducible refine iteF ?_
  | with_reducible refine iteNt ?_
  | with_reducible refine iteNf ?_
  | with_reducible refine iteTd (by decide) ?_
  | with_reducible refine iteFd (by decide) ?_
  | with_reducible refine iteNd (by decide) ?_
  | with_reducible refine iteNdF (by decide) ?_
  | ((with_reducible refine iteFd ?rdn ?_); (case rdn => (intro rdz; cases rdz; done)))
  | ((with_reducible refine iteNdF ?rdn ?_); (case rdn => (intro rdz; cases rdz; done))))
local macro_rules | `(tactic| walk_at "rd") => `(tactic| (repeat walk_at "rd1"))
section
variable {P : Program} {w : World} {K : PySem.W.Frag} {mg : Str → Option Value} {base : Heap}
/-! values and their codes -/
def esc (c : Nat) : List Nat := if c = 33 then [33, 98] else if c = 32 then [33, 97] else [c]
def txtC (l : List Nat) : List Nat := l.flatMap esc ++ [32]
def nine (c : Nat) : Nat := 105 - c
def intC (i : Int) : List Nat :=
  if i = 0 then [111] else if 0 < i then [112] ++ [64 + (TL.numL i.natAbs).length] ++ TL.numL i.natAbs
  else [110] ++ [96 - (TL.numL i.natAbs).length] ++ (TL.numL i.natAbs).map nine
def codeD : PyData → List Nat
  | .none => [48]
  | .bool b => if b then [50] else [49]
  | .int i => intC i
  | .str z => [116] ++ txtC z.cps.toList
  | _ => []
def isVal : PyData → Bool
  | .none => true
  | .bool _ => true
  | .int i => decide (i.natAbs < 10 ^ 30)
  | .str z => isT z.cps.toList && decide (z.cps.toList.length ≤ 200)
  | _ => false
def SzOk : PyData → Prop
  | .str z => z.cps.toList.length ≤ 100000
  | _ => True
theorem SzOk.val {d : PyData} (h : isVal d = true) : SzOk d := by
  cases d with
  | str z =>
    have h2 : (isT z.cps.toList && decide (z.cps.toList.length ≤ 200)) = true := h
    rw [Bool.and_eq_true] at h2
    have := of_decide_eq_true h2.2
    show z.cps.toList.length ≤ 100000
    omega
  | _ => trivial
theorem num_len {n : Nat} (h : n < 10 ^ 30) : (TL.numL n).length ≤ 30 := by
  rw [numL_eq, List.length_map]
  exact toDigits_len10 h (by decide)
theorem num_pos (n : Nat) : 1 ≤ (TL.numL n).length := by
  rw [numL_eq, List.length_map]
  have : (Nat.toDigits 10 n) ≠ [] := by
    intro e
    have h := Nat.length_toDigits_pos (b := 10) (n := n)
    rw [e] at h
    exact absurd h (by decide)
  exact List.length_pos_iff.mpr this
theorem num_code {n : Nat} : ∀ c ∈ TL.numL n, 48 ≤ c ∧ c ≤ 57 := by
  rw [numL_eq]
  exact digit_code
theorem log_1920 {n : Nat} (h : n < 10 ^ 60) : ((n : Int).natAbs).log2 < 1920 := by
  rw [Int.natAbs_natCast]
  by_cases h0 : n = 0
  · subst h0; decide
  · exact Nat.lt_of_lt_of_le ((Nat.log2_lt h0).mpr (show n < 2 ^ 200 from Nat.lt_trans h (by decide))) (by decide)
theorem abs_nat (i : Int) : (if i < 0 then -i else i) = (i.natAbs : Int) := by split <;> omega
theorem abs_nat2 (i : Int) : (if i < 0 then -i else i) = ((i.natAbs : Nat) : Int) := abs_nat i
def cntL : List Nat := [64, 65, 66, 67, 68, 69, 70, 71, 72, 73, 74, 75, 76, 77, 78, 79, 80, 81, 82, 83, 84, 85, 86, 87, 88, 89, 90, 91, 92, 93, 94, 95, 96]
theorem cnt_at {k c : Nat} (h : cntL[k]? = some c) : c = 64 + k := by
  have hk : k < 33 := (List.getElem?_eq_some_iff.mp h).1
  have h2 : ∀ j : _root_.Fin 33, cntL[j.val]? = some (64 + j.val) := by decide
  rw [h2 ⟨k, hk⟩] at h
  cases h
  rfl
def ninL : List Nat := [57, 56, 55, 54, 53, 52, 51, 50, 49, 48]
theorem nin_at {k c : Nat} (h : ninL[k]? = some c) : c = 57 - k := by
  have hk : k < 10 := (List.getElem?_eq_some_iff.mp h).1
  have h2 : ∀ j : _root_.Fin 10, ninL[j.val]? = some (57 - j.val) := by decide
  rw [h2 ⟨k, hk⟩] at h
  cases h
  rfl
theorem i_dig {H : Hp} {Q : VK} {c : Nat} (h : 48 ≤ c ∧ c ≤ 57) (q : Q (.int ((c - 48 : Nat) : Int)) H) : rINT [.str (S [c])] H Q := by
  have hD : isD [c] = true := by
    unfold isD
    simp [h.1, h.2]
  refine i_s (SX.int_S hD (by simp) (by simp)) (by rw [S_len]; simp) ?_
  have e : NumText.digitsVal [c] = c - 48 := by
    have e1 := digitsVal_snoc [] c
    rw [List.nil_append] at e1
    rw [e1]
    have e0 : NumText.digitsVal [] = 0 := rfl
    rw [e0]
    omega
  rw [e]
  exact q
/-! is_text, is_value -/
def sp_is_text (K : PySem.W.Frag) : Sp := fun vs H Q _ => ∃ l : List Nat, vs = [.str (S l)] ∧ Q (.bl (isT l)) H
theorem ok_is_text (Y : Fx K mg) : FnOk P w K mg base CX0 1 Y.a_is_text Y.fd_is_text ["value"] (sp_is_text K) := by
  refine Y.F_is_text.ok sc_is_text (fun vs H Q E h => ?_) (fun cdv A outer s H vs Q E hr h => ?_)
  · obtain ⟨l, rfl, _⟩ := h
    rfl
  · obtain ⟨l, rfl, q⟩ := h
    refine ⟨_, b_is_text Y hr, ?_⟩
    show t_is_text K _ [some (.str (S l))] H
    unfold t_is_text
    walk_at "rd"
    rw [← is_text_eq l] at q
    refine ite2' (fun e => ?_) (fun e => ?_)
    · walk_at "rd"
      rw [e] at q
      exact q
    · rw [e] at q
      exact q
def sp_is_value (K : PySem.W.Frag) : Sp := fun vs H Q _ => ∃ (x : V) (d : PyData), vs = [x] ∧ Dp K H x d ∧ SzOk d ∧ Q (.bl (isVal d)) H
theorem ok_is_value (Y : Fx K mg) : FnOk P w K mg base CX0 2 Y.a_is_value Y.fd_is_value ["value"] (sp_is_value K) := by
  refine Y.F_is_value.ok sc_is_value (fun vs H Q E h => ?_) (fun cdv A outer s H vs Q E hr h => ?_)
  · obtain ⟨x, d, rfl, _⟩ := h
    rfl
  · obtain ⟨x, d, rfl, hx, hz, q⟩ := h
    refine ⟨_, b_is_value Y (ok_is_text Y) hr, ?_⟩
    show t_is_value K _ _ [some x] H
    unfold t_is_value
    walk_at "rd"
    refine ty_D hx ?_
    have hx' := hx
    cases hx with
    | int i =>
      walk_at "rd"
      refine iteTd rfl ?_
      walk_at "rd"
      rw [abs_nat]
      refine pw_ii ⟨by decide, by decide, by decide⟩ ?_
      walk_at "rd"
      have e : decide (((i.natAbs : Nat) : Int) < 10 ^ Int.toNat 30) = isVal (.int i) := by
        show _ = decide (i.natAbs < 10 ^ 30)
        congr 1
        show (((i.natAbs : Nat) : Int) < (10 : Int) ^ 30) = _
        apply propext
        omega
      rw [e]
      exact q
    | str z =>
      obtain ⟨l, rfl⟩ : ∃ l, z = S l := ⟨_, S_eta z⟩
      have hl : l.length ≤ 100000 := hz
      walk_at "rd"
      refine iteFd (show ¬ (("str" : String) = "int") by decide) ?_
      walk_at "rd"
      refine ⟨l, rfl, ?_⟩
      have q' : Q (.bl (isT l && decide (l.length ≤ 200))) H := q
      walk_at "rd"
      refine ite2' (fun e => ?_) (fun e => ?_)
      · rw [e, Bool.true_and] at q'
        walk_at "rd"
        have e2 : decide ((l.length : Int) ≤ 200) = decide (l.length ≤ 200) := by
          congr 1
          apply propext
          omega
        rw [e2]
        exact q'
      · rw [e, Bool.false_and] at q'
        exact q'
    | non =>
      walk_at "rd"
      exact q
    | bl b =>
      walk_at "rd"
      refine iteFd (show ¬ (("bool" : String) = "int") by decide) ?_
      walk_at "rd"
      exact q
    | lst h _ =>
      walk_at "rd"
      refine iteFd (show ¬ (("list" : String) = "int") by decide) ?_
      walk_at "rd"
      refine ty_L h ?_
      walk_at "rd"
      refine ty_L h ?_
      walk_at "rd"
      exact q
    | tup h _ =>
      walk_at "rd"
      refine iteFd (show ¬ (("tuple" : String) = "int") by decide) ?_
      walk_at "rd"
      refine ty_T h ?_
      walk_at "rd"
      refine ty_T h ?_
      walk_at "rd"
      exact q
/-! the code of a text -/
def sp_text_code (K : PySem.W.Frag) : Sp := fun vs H Q _ => ∃ l : List Nat, vs = [.str (S l)] ∧ l.length ≤ 200 ∧ Q (.str (S (txtC l))) H
theorem esc2 (l : List Nat) : (l.flatMap fun d => if d = 33 then [33, 98] else [d]).flatMap (fun d => if d = 32 then [33, 97] else [d]) = l.flatMap esc := by
  induction l with
  | nil => rfl
  | cons c l ih =>
    rw [List.flatMap_cons, List.flatMap_cons, List.flatMap_append, ih]
    congr 1
    unfold esc
    by_cases h : c = 33
    · rw [if_pos h, if_pos h]; rfl
    · rw [if_neg h, if_neg h]
      by_cases h2 : c = 32
      · rw [if_pos h2]; subst h2; rfl
      · rw [if_neg h2]
        simp [h2]
theorem flatMap_le {f : Nat → List Nat} {n : Nat} (hf : ∀ c, (f c).length ≤ n) : ∀ l : List Nat, (l.flatMap f).length ≤ n * l.length
  | [] => Nat.zero_le _
  | c :: l => by
    rw [List.flatMap_cons, List.length_append, List.length_cons, Nat.mul_add, Nat.mul_one]
    have h1 := hf c
    have h2 := flatMap_le hf l
    omega
theorem ok_text_code (Y : Fx K mg) : FnT P w K mg base CX0 1 Y.a_text_code Y.fd_text_code ["text"] (sp_text_code K) := by
  refine Fun.okT Y.F_text_code sc_text_code (fun vs H Q E h => ?_) (fun cdv A outer s H vs Q E hr h => ?_)
  · obtain ⟨l, rfl, _⟩ := h
    rfl
  · obtain ⟨l, rfl, hl, q⟩ := h
    refine ⟨_, b_text_code Y hr, ?_⟩
    show t_text_code K _ [some (.str (S l))] H
    unfold t_text_code
    rw [show (" " : Str) = S [32] from rfl, show ("!a" : Str) = S [33, 97] from rfl, show ("!" : Str) = S [33] from rfl, show ("!b" : Str) = S [33, 98] from rfl]
    walk_at "rd"
    refine x_repl ?_
    refine x_repl ?_
    walk_at "rd"
    refine ⟨by rw [S_len, S_len]; show l.length + (l.length + 1) * 2 ≤ 16777216; omega, ?_⟩
    rw [repl_S]
    have h1 : (l.flatMap fun d => if d = 33 then [33, 98] else [d]).length ≤ 2 * l.length := flatMap_le (fun c => by split <;> simp) l
    refine x_str ?_
    refine ⟨by rw [S_len, S_len]; show _ + (_ + 1) * 2 ≤ 16777216; omega, ?_⟩
    rw [repl_S, esc2]
    have h2 : (l.flatMap esc).length ≤ 2 * l.length := flatMap_le (fun c => by unfold esc; split <;> (try split) <;> simp) l
    walk_at "rd"
    exact q
end
end My

set_option Elab.async false
set_option linter.all false
set_option maxRecDepth 100000
set_option maxHeartbeats 1000000
namespace My
open PySem PySem.Spec PyProof.Rows L2
local macro_rules | `(tactic| walk_at "len") => `(tactic| first | assumption | omega | decide | (simp only [List.length_append, List.length_take, List.length_drop, List.length_cons, List.length_nil, List.length_replicate]; omega))
local macro_rules | `(tactic| walk_at "side") => `(tactic| first | assumption | exact Nat.zero_le _ | decide | omega)
local macro_rules | `(tactic| walk_at "rd1") => `(tactic| first
  | with_reducible refine s_seq ?_
  | with_reducible refine x_gsub ?_
  | with_reducible refine s_asg ?_
  | ((with_reducible refine s_gn ?_); dsimp only [List.set])
  | ((with_reducible refine x_var (v := ?rdv) ?rdhv ?_); (case rdhv => rfl))
  | with_reducible refine x_c ?_
  | with_reducible refine x_op ?_
  | with_reducible refine x_cons ?_
  | with_reducible refine x_nil ?_
  | with_reducible refine x_cb ?_
  | with_reducible refine x_call ?_
  | with_reducible refine x_callS ?_
  | with_reducible refine s_try ?_
  | with_reducible refine s_raise ?_
  | with_reducible refine s_if ?_
  | with_reducible refine s_ret ?_
  | with_reducible refine s_retN ?_
  | with_reducible refine s_next ?_
  | with_reducible refine s_brk ?_
  | with_reducible refine s_cont ?_
  | with_reducible refine s_drop ?_
  | with_reducible refine s_par ?_
  | with_reducible refine s_par3 ?_
  | ((with_reducible refine s_p2 ?_); dsimp only [List.set])
  | ((with_reducible refine s_p3 ?_); dsimp only [List.set])
  | with_reducible refine f_r1 ?_
  | with_reducible refine f_r2 ?_
  | with_reducible refine f_l ?_
  | with_reducible refine f_t ?_
  | with_reducible refine f_s ?_
  | with_reducible refine c_r1 ?_
  | with_reducible refine c_r2 ?_
  | with_reducible refine c_l ?_
  | with_reducible refine c_t ?_
  | with_reducible refine c_s ?_
  | with_reducible refine x_tst ?_
  | with_reducible refine x_tru ?_
  | with_reducible refine x_truB ?_
  | with_reducible refine x_bl2 ?_
  | with_reducible refine x_int ?_
  | with_reducible refine x_str ?_
  | with_reducible refine x_not ?_
  | with_reducible refine x_and ?_
  | with_reducible refine x_or ?_
  | with_reducible refine x_andV ?_
  | with_reducible refine x_orV ?_
  | with_reducible refine x_notV ?_
  | with_reducible refine x_if ?_
  | with_reducible refine x_yes ?_
  | with_reducible refine x_un ?_
  | with_reducible refine x_tup ?_
  | with_reducible refine x_lst ?_
  | with_reducible refine x_callK ?_
  | with_reducible refine x_callK0 ?_
  | with_reducible refine x_bm ?_
  | with_reducible refine x_bm0 ?_
  | with_reducible refine x_tyS ?_
  | with_reducible refine x_sl ?_
  | with_reducible refine x_nopart ?_
  | with_reducible refine x_part ?_
  | with_reducible refine x_fmt0 ?_
  | with_reducible refine x_gc ?_
  | with_reducible refine x_gz ?_
  | with_reducible refine x_ckw ?_
  | with_reducible refine x_fmt ?_
  | with_reducible refine x_chain ?_
  | with_reducible refine a_ii ?_
  | ((with_reducible refine sl_to ?rda ?rdb ?_); (case rda => walk_at "len"); (case rdb => walk_at "len"))
  | ((with_reducible refine sl_from ?rda ?rdb ?_); (case rda => walk_at "len"); (case rdb => walk_at "len"))
  | ((with_reducible refine sl_mid ?rda ?rdb ?rdc ?_); (case rda => walk_at "len"); (case rdb => walk_at "len"); (case rdc => walk_at "len"))
  | ((with_reducible refine a_SS ?rda ?_); (case rda => walk_at "len"))
  | ((with_reducible refine ln_S ?rda ?_); (case rda => walk_at "len"))
  | with_reducible refine e_SS ?_
  | with_reducible refine ne_SS ?_
  | with_reducible refine s_ii ?_
  | ((with_reducible refine md_ii ?rdc ?_); (case rdc => first | decide | assumption | omega))
  | with_reducible refine n_i ?_
  | with_reducible refine e_ii ?_
  | with_reducible refine e_bb ?_
  | with_reducible refine ne_ii ?_
  | with_reducible refine ne_bb ?_
  | with_reducible refine lt_ii ?_
  | with_reducible refine lt_ss ?_
  | with_reducible refine le_ii ?_
  | with_reducible refine gt_ii ?_
  | with_reducible refine gt_ss ?_
  | with_reducible refine ge_ii ?_
  | with_reducible refine e_ss ?_
  | with_reducible refine ne_ss ?_
  | with_reducible refine is_N ?_
  | with_reducible refine is_T ?_
  | with_reducible refine is_B ?_
  | with_reducible refine isn_N ?_
  | with_reducible refine isn_T ?_
  | with_reducible refine isn_B ?_
  | with_reducible refine in_s ?_
  | with_reducible refine nin_s ?_
  | with_reducible refine i_i ?_
  | with_reducible refine i_b ?_
  | with_reducible refine ab_i ?_
  | with_reducible refine mx_ii ?_
  | with_reducible refine mn_ii ?_
  | with_reducible refine ty_N ?_
  | with_reducible refine ty_B ?_
  | with_reducible refine ty_I ?_
  | with_reducible refine ty_S ?_
  | with_reducible refine ma_s ?_
  | with_reducible refine mp_s ?_
  | with_reducible refine mdg_s ?_
  | with_reducible refine mf_s ?_
  | with_reducible refine iteT ?_
  | with_reducible refine iteF ?_
  | with_reducible refine iteNt ?_
  | with_reducible refine iteNf ?_
  | with_reducible refine iteTd (by decide) ?_
  | with_reducible refine iteFd (by decide) ?_
  | with_reducible refine iteNd (by decide) ?_
  | with_reducible refine iteNdF (by decide) ?_
  | ((with_reducible refine iteFd ?rdn ?_); (case rdn => (intro rdz; cases rdz; done)))
  | ((with_reducible refine iteNdF ?rdn ?_); (case rdn => (intro rdz; cases rdz; done))))
local macro_rules | `(tactic| walk_at "rd") => `(tactic| (repeat walk_at "rd1"))
section
variable {P : Program} {w : World} {K : PySem.W.Frag} {mg : Str → Option Value} {base : Heap}
/-! the code of a value -/
theorem flat_nine : ∀ ds : List Nat, (ds.map fun c => [nine c]).flatten = ds.map nine
  | [] => rfl
  | c :: ds => by rw [List.map_cons, List.flatten_cons, flat_nine ds]; rfl
theorem str_at {l : List Nat} {i : Nat} {c : Nat} (h : l[i]? = some c) : c ∈ l := List.mem_of_getElem? h
def sp_integer_code (K : PySem.W.Frag) : Sp := fun vs H Q _ => ∃ i : Int, vs = [.int i] ∧ i.natAbs < 10 ^ 30 ∧ ∀ H', Same H H' → Q (.str (S (intC i))) H'
theorem ok_integer_code (Y : Fx K mg) : FnOk P w K mg base CX0 1 Y.a_integer_code Y.fd_integer_code ["value"] (sp_integer_code K) := by
  refine Y.F_integer_code.ok sc_integer_code (fun vs H Q E h => ?_) (fun cdv A outer s H vs Q E hr h => ?_)
  · obtain ⟨i, rfl, _⟩ := h
    rfl
  · obtain ⟨i, rfl, hi, q⟩ := h
    refine ⟨_, b_integer_code Y hr, ?_⟩
    show t_integer_code K _ [some (.int i), none, none] H
    unfold t_integer_code
    rw [show ("o" : Str) = S [111] from rfl, show ("p" : Str) = S [112] from rfl, show ("n" : Str) = S [110] from rfl, show ("" : Str) = S [] from rfl, show ("@ABCDEFGHIJKLMNOPQRSTUVWXYZ[\\]^_`" : Str) = S cntL from rfl, show ("9876543210" : Str) = S ninL from rfl]
    unfold intC at q
    have h30 := num_len hi
    have h1 := num_pos i.natAbs
    walk_at "rd"
    refine ite2' (fun e => ?_) (fun e => ?_)
    · have e0 : i = 0 := of_decide_eq_true e
      rw [if_pos e0] at q
      walk_at "rd"
      exact q H (Same.refl H)
    · have e0 : i ≠ 0 := of_decide_eq_false e
      rw [if_neg e0] at q
      walk_at "rd"
      rw [abs_nat]
      refine st_i (log_1920 (Nat.lt_trans hi (by decide))) ?_
      rw [show (toString (i.natAbs : Int) : Str) = S (TL.numL i.natAbs) from SX.num_S i.natAbs]
      generalize hds : TL.numL i.natAbs = ds at q h30 h1
      have hdc : ∀ c ∈ ds, 48 ≤ c ∧ c ≤ 57 := by rw [← hds]; exact num_code
      walk_at "rd"
      refine ite2' (fun e => ?_) (fun e => ?_)
      · have e1 : 0 < i := of_decide_eq_true e
        rw [if_pos e1] at q
        walk_at "rd"
        refine ix_SS (by omega) (by show (ds.length : Int) < 33; omega) (by decide) fun c hc => ?_
        have hc2 := cnt_at hc
        rw [Int.toNat_natCast] at hc2
        subst hc2
        walk_at "rd"
        exact q H (Same.refl H)
      · have e1 : ¬ 0 < i := of_decide_eq_false e
        rw [if_neg e1] at q
        walk_at "rd"
        refine ix_SS (by omega) (by show (32 : Int) - (ds.length : Int) < 33; omega) (by decide) fun c hc => ?_
        have hc2 := cnt_at hc
        have hc3 : c = 96 - ds.length := by omega
        subst hc3
        walk_at "rd"
        refine lcS_mk (fun D j H' => Same H H' ∧ H' D = some (.lst (tv ((ds.take j).map fun c => [nine c])))) (fun D hD => ⟨same_upd hD, upd_same⟩) (fun D j c H' hD hc hP => ?_) (fun D H' hD hP => ?_)
        · obtain ⟨hS, hH⟩ := hP
          have hcd := hdc c (str_at hc)
          have hj := (List.getElem?_eq_some_iff.mp hc).1
          refine ⟨rfl, ?_⟩
          walk_at "rd"
          refine i_dig hcd ?_
          refine ix_SS (by omega) (by show (((c - 48 : Nat) : Int)) < 10; omega) (by decide) fun c2 hc2 => ?_
          have hc4 := nin_at hc2
          have hc5 : c2 = nine c := by
            unfold nine
            rw [Int.toNat_natCast] at hc4
            omega
          subst hc5
          refine ⟨_, hH, Nat.lt_of_le_of_lt (show _ ≤ 50 by rw [tv_len, List.length_map, List.length_take]; omega) (by decide), same_mut hS hD, ?_⟩
          rw [upd_same, take_snoc hc, List.map_append, tv_app]
          rfl
        · obtain ⟨hS, hH⟩ := hP
          rw [List.take_of_length_le (Nat.le_refl _)] at hH
          have hfl := flat_nine ds
          walk_at "rd"
          refine jn_0 (lst_of (by rw [← tv_eq]; exact hH)) (by rw [hfl, List.length_map]; omega) ?_
          rw [hfl]
          refine a_SS (by simp only [List.length_append, List.length_cons, List.length_nil, List.length_map]; omega) ?_
          exact q H' hS
def sp_value_code (C : Addr) (K : PySem.W.Frag) : Sp := fun vs H Q E => ∃ (x : V) (d : PyData), vs = [x] ∧ Dp K H x d ∧ SzOk d ∧ (isVal d = true → ∀ H', Same H H' → Q (.str (S (codeD d))) H') ∧ (isVal d = false → E (.ref C) none H)
theorem ok_value_code (Y : Fx K mg) : FnOk P w K mg base (L2.CX P w) 3 Y.a_value_code Y.fd_value_code ["value"] (sp_value_code Y.x_InvalidValue K) := by
  refine Y.F_value_code.okX sc_value_code (fun vs H Q E h => ?_) (fun cdv A outer s H vs Q E hr h => ?_)
  · obtain ⟨x, d, rfl, _⟩ := h
    rfl
  · obtain ⟨x, d, rfl, hx, hz, q, e⟩ := h
    refine ⟨_, b_value_code Y (ok_integer_code Y) (ok_is_value Y) (ok_text_code Y) hr, ?_⟩
    show t_value_code K Y E _ _ _ _ [some x] H
    unfold t_value_code
    rw [show ("0" : Str) = S [48] from rfl, show ("2" : Str) = S [50] from rfl, show ("1" : Str) = S [49] from rfl, show ("t" : Str) = S [116] from rfl]
    walk_at "rd"
    refine ⟨x, d, rfl, hx, hz, ?_⟩
    walk_at "rd"
    cases hv : isVal d with
    | false =>
      walk_at "rd"
      exact e hv
    | true =>
      have q' := q hv
      refine iteNt ?_
      walk_at "rd"
      cases hx with
      | non =>
        walk_at "rd"
        exact q' H (Same.refl H)
      | bl b =>
        walk_at "rd"
        cases b with
        | true =>
          walk_at "rd"
          exact q' H (Same.refl H)
        | false =>
          refine iteF ?_
          exact q' H (Same.refl H)
      | int i =>
        have hi : i.natAbs < 10 ^ 30 := of_decide_eq_true hv
        walk_at "rd"
        exact ⟨i, rfl, hi, q'⟩
      | str z =>
        obtain ⟨l, rfl⟩ : ∃ l, z = S l := ⟨_, S_eta z⟩
        have hv2 : (isT l && decide (l.length ≤ 200)) = true := hv
        rw [Bool.and_eq_true] at hv2
        have hl := of_decide_eq_true hv2.2
        walk_at "rd"
        refine ⟨l, rfl, hl, ?_⟩
        have h2 : (l.flatMap esc).length ≤ 2 * l.length := flatMap_le (fun c => by unfold esc; split <;> (try split) <;> simp) l
        refine a_SS (by unfold txtC; simp only [List.length_append, List.length_cons, List.length_nil]; omega) ?_
        exact q' H (Same.refl H)
      | lst h _ => cases hv
      | tup h _ => cases hv
end
end My

set_option Elab.async false
set_option linter.all false
set_option maxRecDepth 100000
set_option maxHeartbeats 1000000
namespace My
open PySem PySem.Spec PyProof.Rows L2
local macro_rules | `(tactic| walk_at "len") => `(tactic| first | assumption | omega | decide | (simp only [List.length_append, List.length_take, List.length_drop, List.length_cons, List.length_nil, List.length_replicate]; omega))
local macro_rules | `(tactic| walk_at "side") => `(tactic| first | assumption | exact Nat.zero_le _ | decide | omega)
local macro_rules | `(tactic| walk_at "rd1") => `(tactic| first
  | with_reducible refine s_seq ?_
  | with_reducible refine x_gsub ?_
  | with_reducible refine s_asg ?_
  | ((with_reducible refine s_gn ?_); dsimp only [List.set])
  | ((with_reducible refine x_var (v := ?rdv) ?rdhv ?_); (case rdhv => rfl))
  | with_reducible refine x_c ?_
  | with_reducible refine x_op ?_
  | with_reducible refine x_cons ?_
  | with_reducible refine x_nil ?_
  | with_reducible refine x_cb ?_
  | with_reducible refine x_call ?_
  | with_reducible refine x_callS ?_
  | with_reducible refine s_try ?_
  | with_reducible refine s_raise ?_
  | with_reducible refine s_if ?_
  | with_reducible refine s_ret ?_
  | with_reducible refine s_retN ?_
  | with_reducible refine s_next ?_
  | with_reducible refine s_brk ?_
  | with_reducible refine s_cont ?_
  | with_reducible refine s_drop ?_
  | with_reducible refine s_par ?_
  | with_reducible refine s_par3 ?_
  | ((with_reducible refine s_p2 ?_); dsimp only [List.set])
  | ((with_reducible refine s_p3 ?_); dsimp only [List.set])
  | with_reducible refine f_r1 ?_
  | with_reducible refine f_r2 ?_
  | with_reducible refine f_l ?_
  | with_reducible refine f_t ?_
  | with_reducible refine f_s ?_
  | with_reducible refine c_r1 ?_
  | with_reducible refine c_r2 ?_
  | with_reducible refine c_l ?_
  | with_reducible refine c_t ?_
  | with_reducible refine c_s ?_
  | with_reducible refine x_tst ?_
  | with_reducible refine x_tru ?_
  | with_reducible refine x_truB ?_
  | with_reducible refine x_bl2 ?_
  | with_reducible refine x_int ?_
  | with_reducible refine x_str ?_
  | with_reducible refine x_not ?_
  | with_reducible refine x_and ?_
  | with_reducible refine x_or ?_
  | with_reducible refine x_andV ?_
  | with_reducible refine x_orV ?_
  | with_reducible refine x_notV ?_
  | with_reducible refine x_if ?_
  | with_reducible refine x_yes ?_
  | with_reducible refine x_un ?_
  | with_reducible refine x_tup ?_
  | with_reducible refine x_lst ?_
  | with_reducible refine x_callK ?_
  | with_reducible refine x_callK0 ?_
  | with_reducible refine x_bm ?_
  | with_reducible refine x_bm0 ?_
  | with_reducible refine x_tyS ?_
  | with_reducible refine x_sl ?_
  | with_reducible refine x_nopart ?_
  | with_reducible refine x_part ?_
  | with_reducible refine x_fmt0 ?_
  | with_reducible refine x_gc ?_
  | with_reducible refine x_gz ?_
  | with_reducible refine x_ckw ?_
  | with_reducible refine x_fmt ?_
  | with_reducible refine x_chain ?_
  | with_reducible refine a_ii ?_
  | ((with_reducible refine sl_to ?rda ?rdb ?_); (case rda => walk_at "len"); (case rdb => walk_at "len"))
  | ((with_reducible refine sl_from ?rda ?rdb ?_); (case rda => walk_at "len"); (case rdb => walk_at "len"))
  | ((with_reducible refine sl_mid ?rda ?rdb ?rdc ?_); (case rda => walk_at "len"); (case rdb => walk_at "len"); (case rdc => walk_at "len"))
  | ((with_reducible refine a_SS ?rda ?_); (case rda => walk_at "len"))
  | ((with_reducible refine ln_S ?rda ?_); (case rda => walk_at "len"))
  | with_reducible refine e_SS ?_
  | with_reducible refine ne_SS ?_
  | with_reducible refine s_ii ?_
  | ((with_reducible refine md_ii ?rdc ?_); (case rdc => first | decide | assumption | omega))
  | with_reducible refine n_i ?_
  | with_reducible refine e_ii ?_
  | with_reducible refine e_bb ?_
  | with_reducible refine ne_ii ?_
  | with_reducible refine ne_bb ?_
  | with_reducible refine lt_ii ?_
  | with_reducible refine lt_ss ?_
  | with_reducible refine le_ii ?_
  | with_reducible refine gt_ii ?_
  | with_reducible refine gt_ss ?_
  | with_reducible refine ge_ii ?_
  | with_reducible refine e_ss ?_
  | with_reducible refine ne_ss ?_
  | with_reducible refine is_N ?_
  | with_reducible refine is_T ?_
  | with_reducible refine is_B ?_
  | with_reducible refine isn_N ?_
  | with_reducible refine isn_T ?_
  | with_reducible refine isn_B ?_
  | with_reducible refine in_s ?_
  | with_reducible refine nin_s ?_
  | with_reducible refine i_i ?_
  | with_reducible refine i_b ?_
  | with_reducible refine ab_i ?_
  | with_reducible refine mx_ii ?_
  | with_reducible refine mn_ii ?_
  | with_reducible refine ty_N ?_
  | with_reducible refine ty_B ?_
  | with_reducible refine ty_I ?_
  | with_reducible refine ty_S ?_
  | with_reducible refine ma_s ?_
  | with_reducible refine mp_s ?_
  | with_reducible refine mdg_s ?_
  | with_reducible refine mf_s ?_
  | with_reducible refine iteT ?_
  | with_reducible refine iteF ?_
  | with_reducible refine iteNt ?_
  | with_reducible refine iteNf ?_
  | with_reducible refine iteTd (by decide) ?_
  | with_reducible refine iteFd (by decide) ?_
  | with_reducible refine iteNd (by decide) ?_
  | with_reducible refine iteNdF (by decide) ?_
  | ((with_reducible refine iteFd ?rdn ?_); (case rdn => (intro rdz; cases rdz; done)))
  | ((with_reducible refine iteNdF ?rdn ?_); (case rdn => (intro rdz; cases rdz; done))))
local macro_rules | `(tactic| walk_at "rd") => `(tactic| (repeat walk_at "rd1"))
section
variable {P : Program} {w : World} {K : PySem.W.Frag} {mg : Str → Option Value} {base : Heap}
/-! a jar of digits -/
def JarAt (H : Hp) (j : Addr) : Prop := ∃ a b : Int, H j = some (.lst [.int a, .int b]) ∧ 0 ≤ a ∧ 0 ≤ b ∧ b < 2 ^ 32
theorem JarAt.new {H : Hp} {j p : Addr} {o : HO} (h : JarAt H j) (hp : H p = none) : JarAt (upd H p o) j := by
  obtain ⟨a, b, h1, h2⟩ := h
  exact ⟨a, b, by rw [upd_ne (ne_of_none h1 hp)]; exact h1, h2⟩
theorem JarAt.same {H H' : Hp} {j : Addr} (h : JarAt H j) (e : Same H H') : JarAt H' j := by
  obtain ⟨a, b, h1, h2⟩ := h
  exact ⟨a, b, e _ _ h1, h2⟩
theorem JarAt.off {H : Hp} {j p : Addr} (h : JarAt H j) (hp : H p = none) : p ≠ j := by
  obtain ⟨a, b, h1, _⟩ := h
  exact ne_new h1 hp
theorem JarAt.keep {H : Hp} {j p : Addr} {o : HO} (h : JarAt H j) (h1 : p ≠ j) : JarAt (upd H p o) j := by
  obtain ⟨a, b, e1, h3⟩ := h
  exact ⟨a, b, by rw [upd_ne (Ne.symm h1)]; exact e1, h3⟩
abbrev Fr (j : Addr) (H H' : Hp) : Prop := Frm j j H H'
theorem Fr.cut {j D : Addr} {R H H' : Hp} {o : HO} (hF : Fr j R H') (hR : Fr j R H) (hD : H D = none) : Fr j R (upd H' D o) := by
  intro x u e1 e2 e3
  have e4 := hF x u e1 e2 e3
  have e5 : x ≠ D := by
    rintro rfl
    have e6 := hR x u e1 e2 e3
    rw [hD] at e6
    cases e6
  rw [upd_ne e5]
  exact e4
def sp__law_jar (K : PySem.W.Frag) : Sp := fun vs H Q _ => ∃ i : Int, vs = [.int i] ∧ ∀ j H', H j = none → JarAt H' j → Same H H' → Q (.ref j) H'
theorem ok__law_jar (Y : Fx K mg) : FnOk P w K mg base CX0 1 Y.a__law_jar Y.fd__law_jar ["_law_cell"] (sp__law_jar K) := by
  refine Y.F__law_jar.ok sc__law_jar (fun vs H Q E h => ?_) (fun cdv A outer st H vs Q E hr h => ?_)
  · obtain ⟨i, rfl, _⟩ := h
    rfl
  · obtain ⟨i, rfl, q⟩ := h
    refine ⟨_, b__law_jar Y hr, ?_⟩
    show t__law_jar K _ [some (.int i)] H
    unfold t__law_jar
    walk_at "rd"
    refine pw_ii ⟨by decide, by decide, by decide⟩ ?_
    walk_at "rd"
    refine pw_ii ⟨by decide, by decide, by decide⟩ ?_
    refine m_ii (.inr (by unfold CMulW; decide +kernel)) ?_
    walk_at "rd"
    refine pw_ii ⟨by decide, by decide, by decide⟩ ?_
    refine m_ii (.inr (by unfold CMulW; decide +kernel)) ?_
    refine md_ii (by decide +kernel) ?_
    generalize hb : i % (10 ^ Int.toNat 64 * 10 ^ Int.toNat 64 * 10 ^ Int.toNat 64) = b
    have b0 : 0 ≤ b := by rw [← hb]; exact Int.emod_nonneg _ (by decide +kernel)
    clear hb
    walk_at "rd"
    refine pw_ii ⟨by decide, by decide, by decide⟩ ?_
    walk_at "rd"
    refine ⟨by show 2 ≤ sizeLine; decide, fun p hp => ?_⟩
    exact q p _ hp ⟨_, _, upd_same, by split <;> omega, by omega, by omega⟩ (same_upd hp)
def sp__law_drawn (K : PySem.W.Frag) : Sp := fun vs H Q _ => ∃ (j : Addr) (n : Int), vs = [.ref j, .int n] ∧ JarAt H j ∧ 0 < n ∧ n < 2 ^ 40 ∧ ∀ r H', 0 ≤ r → r < n → JarAt H' j → Fr j H H' → Q (.int r) H'
theorem ok__law_drawn (Y : Fx K mg) : FnOk P w K mg base CX0 1 Y.a__law_drawn Y.fd__law_drawn ["_law_jar_here", "_law_many"] (sp__law_drawn K) := by
  refine Y.F__law_drawn.ok sc__law_drawn (fun vs H Q E h => ?_) (fun cdv A outer st H vs Q E hr h => ?_)
  · obtain ⟨j, n, rfl, _⟩ := h
    rfl
  · obtain ⟨j, n, rfl, ⟨a, b, hj, ha, hb0, hb1⟩, hn0, hn1, q⟩ := h
    refine ⟨_, b__law_drawn Y hr, ?_⟩
    show t__law_drawn K _ [some (.ref j), some (.int n), none] H
    unfold t__law_drawn
    walk_at "rd"
    refine ix_L (lst_of hj) (by rfl) ?_
    walk_at "rd"
    refine ite2' (fun e => ?_) (fun e => ?_)
    · walk_at "rd"
      refine ix_L (lst_of hj) (by rfl) ?_
      walk_at "rd"
      refine ix_L (lst_of hj) (by rfl) ?_
      walk_at "rd"
      refine fd_ii ⟨hn0, log_40 hn0 hn1⟩ ?_
      walk_at "rd"
      refine st_L hj (by decide) (by show (0 : Int) < 2; decide) ?_
      walk_at "rd"
      exact q _ _ (Int.emod_nonneg _ (by omega)) (Int.emod_lt_of_pos _ hn0) ⟨_, b, upd_same, Int.ediv_nonneg ha (by omega), hb0, hb1⟩ ((Frm.refl H).updS)
    · walk_at "rd"
      refine ix_L (lst_of hj) (by rfl) ?_
      walk_at "rd"
      refine m_ii (.inl (.inr (by decide))) ?_
      walk_at "rd"
      refine st_L hj (by decide) (by show (1 : Int) < 2; decide) ?_
      have e0 : 0 ≤ (b * 48271 + 12820163) % 2147483647 := Int.emod_nonneg _ (by decide)
      have e1 : (b * 48271 + 12820163) % 2147483647 < 2147483647 := Int.emod_lt_of_pos _ (by decide)
      show tRet _ _ _ (upd H j (.lst [.int a, .int ((b * 48271 + 12820163) % 2147483647)]))
      have hj2 : upd H j (.lst [.int a, .int ((b * 48271 + 12820163) % 2147483647)]) j = some (.lst [.int a, .int ((b * 48271 + 12820163) % 2147483647)]) := upd_same
      have hF : Fr j H (upd H j (.lst [.int a, .int ((b * 48271 + 12820163) % 2147483647)])) := (Frm.refl H).updS
      generalize (b * 48271 + 12820163) % 2147483647 = b2 at e0 e1 hj2 hF
      generalize upd H j (.lst [.int a, .int b2]) = H2 at hj2 hF
      walk_at "rd"
      refine ix_L (lst_of hj2) (by rfl) ?_
      walk_at "rd"
      refine ix_L (lst_of hj2) (by rfl) ?_
      refine m_ii (.inl (.inl ⟨by omega, by omega⟩)) ?_
      walk_at "rd"
      refine fd_ii ⟨by decide, by decide⟩ ?_
      walk_at "rd"
      exact q _ H2 (Int.emod_nonneg _ (by omega)) (Int.emod_lt_of_pos _ hn0) ⟨a, b2, hj2, ha, e0, by omega⟩ hF
/-! drawn values -/
def sigL : List Nat := menu1 ++ menu2
def sp__law_signs (K : PySem.W.Frag) : Sp := fun vs H Q _ => vs = [] ∧ Q (.str (S sigL)) H
theorem ok__law_signs (Y : Fx K mg) : FnOk P w K mg base CX0 1 Y.a__law_signs Y.fd__law_signs [] (sp__law_signs K) := by
  refine Y.F__law_signs.ok sc__law_signs (fun vs H Q E h => ?_) (fun cdv A outer st H vs Q E hr h => ?_)
  · obtain ⟨rfl, _⟩ := h
    rfl
  · obtain ⟨rfl, q⟩ := h
    refine ⟨_, b__law_signs Y hr, ?_⟩
    show t__law_signs K _ [none] H
    unfold t__law_signs
    rw [show (" !\"#$&'()*+,-./0123456789:;<=>?@ABCDEFGHIJKLMNOPQRSTUVWXYZ[\\]^_`" : Str) = S menu1 from rfl, show ("abcdefghijklmnopqrstuvwxyz{|}~" : Str) = S menu2 from rfl]
    walk_at "rd"
    exact q
def lowL : List Nat := [32, 33, 34, 97]
theorem low_T : isT lowL = true := by decide
theorem sig_T : isT sigL = true := by decide
def sp__law_text (K : PySem.W.Frag) : Sp := fun vs H Q _ => ∃ j : Addr, vs = [.ref j] ∧ JarAt H j ∧ ∀ l H', l.length ≤ 200 → isT l = true → JarAt H' j → Fr j H H' → Q (.str (S l)) H'
theorem ok__law_text (Y : Fx K mg) : FnOk P w K mg base CX0 2 Y.a__law_text Y.fd__law_text ["_law_jar_here"] (sp__law_text K) := by
  refine Y.F__law_text.ok sc__law_text (fun vs H Q E h => ?_) (fun cdv A outer st H vs Q E hr h => ?_)
  · obtain ⟨j, rfl, _⟩ := h
    rfl
  · obtain ⟨j, rfl, hJ, q⟩ := h
    refine ⟨_, b__law_text Y (ok__law_drawn Y) (ok__law_signs Y) hr, ?_⟩
    show t__law_text K _ _ _ [some (.ref j), none, none, none, none, none, none, none, none] H
    unfold t__law_text
    rw [show (" !\"a" : Str) = S lowL from rfl, show ("" : Str) = S [] from rfl]
    walk_at "rd"
    refine ⟨rfl, ?_⟩
    walk_at "rd"
    refine ⟨j, 8, rfl, hJ, by decide, by decide, fun r1 H1 r10 r11 hJ1 hF1 => ?_⟩
    walk_at "rd"
    refine ⟨by show 3 ≤ sizeLine; decide, fun p1 hp1 => ?_⟩
    refine gt_T (tup_of upd_same) rfl ?_
    refine x_gc ?_
    refine s_gn ?_
    refine x_gc ?_
    refine s_gn ?_
    refine x_gc ?_
    refine s_gn ?_
    refine x_gz ?_
    replace hF1 := hF1.new hp1 (o := .tup [V.str (S sigL), .str (S lowL), .int r1])
    replace hJ1 := hJ1.new hp1 (o := .tup [V.str (S sigL), .str (S lowL), .int r1])
    generalize upd H1 p1 (.tup [V.str (S sigL), .str (S lowL), .int r1]) = H2 at hF1 hJ1
    show tSeq _ _ _ [some (.ref j), some (.str (S sigL)), some (.str (S lowL)), some (.int r1), none, none, none, none, none] H2
    walk_at "rd"
    refine ite2' (fun e => ?_) (fun e => ?_)
    · walk_at "rd"
      refine ⟨j, 3, rfl, hJ1, by decide, by decide, fun r2 H3 r20 r21 hJ3 hF3 => ?_⟩
      walk_at "rd"
      refine ⟨j, 94, rfl, hJ3, by decide, by decide, fun r3 H4 r30 r31 hJ4 hF4 => ?_⟩
      refine ix_SS r30 (by show r3 < 94; exact r31) (by decide) fun c1 hc1 => ?_
      have t1 := isT_get sig_T hc1
      walk_at "rd"
      refine ⟨j, 4, rfl, hJ4, by decide, by decide, fun r4 H5 r40 r41 hJ5 hF5 => ?_⟩
      refine ix_SS r40 (by show r4 < 4; exact r41) (by decide) fun c2 hc2 => ?_
      have t2 := isT_get low_T hc2
      walk_at "rd"
      refine ⟨j, 200 - r2, rfl, hJ5, by omega, by omega, fun r5 H6 r50 r51 hJ6 hF6 => ?_⟩
      walk_at "rd"
      refine m_SI (by omega) (by omega) (by rw [List.length_singleton]; omega) ?_
      rw [rep1]
      have l1 : (List.replicate r5.toNat c1).length = r5.toNat := List.length_replicate
      have u1 : isT (List.replicate r5.toNat c1) = true := rep1_isT t1
      generalize List.replicate r5.toNat c1 = R1 at l1 u1
      walk_at "rd"
      refine m_SI (by omega) (by omega) (by rw [List.length_singleton]; omega) ?_
      rw [rep1]
      have l2 : (List.replicate (200 - r2 - r5 - 1).toNat c1).length = (200 - r2 - r5 - 1).toNat := List.length_replicate
      have u2 : isT (List.replicate (200 - r2 - r5 - 1).toNat c1) = true := rep1_isT t1
      generalize List.replicate (200 - r2 - r5 - 1).toNat c1 = R2 at l2 u2
      walk_at "rd"
      refine q _ H6 (by rw [List.length_append, List.length_append, List.length_singleton]; omega) (by rw [isT_app, isT_app, u1, t2, u2]; rfl) hJ6 ((((hF1.trans hF3).trans hF4).trans hF5).trans hF6)
    · walk_at "rd"
      have turn : ∀ (L : List Nat) (n m : Int) (i : Nat), True := fun _ _ _ _ => trivial
      refine ite2' (fun e => ?_) (fun e => ?_)
      · walk_at "rd"
        refine ⟨j, 5, rfl, hJ1, by decide, by decide, fun r2 H3 r20 r21 hJ3 hF3 => ?_⟩
        have hF03 := hF1.trans hF3
        walk_at "rd"
        refine lcR1_mk (by omega) (by omega) (fun D i H' => JarAt H' j ∧ Fr j H H' ∧ ∃ cs : List (List Nat), H' D = some (.lst (tv cs)) ∧ cs.length = i ∧ (∀ c ∈ cs, c.length = 1) ∧ ∀ c ∈ cs, isT c = true) (fun D hD => ⟨hJ3.new hD, hF03.new hD, [], upd_same, rfl, (fun _ h => by cases h), fun _ h => by cases h⟩) (fun D i H' hD hi hp => ?_) (fun D H4 hD hp => ?_)
        · obtain ⟨hJ', hF', cs, hc, hcl, hc1, hc2⟩ := hp
          have oD := hJ3.off hD
          refine ⟨rfl, ?_⟩
          walk_at "rd"
          refine ⟨j, 4, rfl, hJ', by decide, by decide, fun r4 H5 r40 r41 hJ5 hF5 => ?_⟩
          refine ix_SS r40 (by show r4 < 4; exact r41) (by decide) fun d hd => ?_
          have td := isT_get low_T hd
          refine ⟨_, hF5 D _ oD oD hc, Nat.lt_of_le_of_lt (show _ ≤ 50 by rw [tv_len]; omega) (by decide), hJ5.keep oD, Fr.cut (hF'.trans hF5) hF03 hD, cs ++ [[d]], ?_, by rw [List.length_append, hcl]; rfl, fun e he => ?_, fun e he => ?_⟩
          · rw [upd_same, tv_app]
            rfl
          · rcases List.mem_append.mp he with h | h
            · exact hc1 e h
            · rw [List.mem_singleton.mp h]; rfl
          · rcases List.mem_append.mp he with h | h
            · exact hc2 e h
            · rw [List.mem_singleton.mp h]; exact td
        · obtain ⟨hJ', hF', cs, hc, hcl, hc1, hc2⟩ := hp
          walk_at "rd"
          have hfl := flat_len hc1
          refine jn_0 (lst_of (by rw [← tv_eq]; exact hc)) (by omega) ?_
          exact q _ H4 (by omega) (isT_flat hc2) hJ' hF'
      · walk_at "rd"
        refine ⟨j, 8, rfl, hJ1, by decide, by decide, fun r2 H3 r20 r21 hJ3 hF3 => ?_⟩
        have hF03 := hF1.trans hF3
        walk_at "rd"
        refine lcR1_mk (by omega) (by omega) (fun D i H' => JarAt H' j ∧ Fr j H H' ∧ ∃ cs : List (List Nat), H' D = some (.lst (tv cs)) ∧ cs.length = i ∧ (∀ c ∈ cs, c.length = 1) ∧ ∀ c ∈ cs, isT c = true) (fun D hD => ⟨hJ3.new hD, hF03.new hD, [], upd_same, rfl, (fun _ h => by cases h), fun _ h => by cases h⟩) (fun D i H' hD hi hp => ?_) (fun D H4 hD hp => ?_)
        · obtain ⟨hJ', hF', cs, hc, hcl, hc1, hc2⟩ := hp
          have oD := hJ3.off hD
          refine ⟨rfl, ?_⟩
          walk_at "rd"
          refine ⟨j, 94, rfl, hJ', by decide, by decide, fun r4 H5 r40 r41 hJ5 hF5 => ?_⟩
          refine ix_SS r40 (by show r4 < 94; exact r41) (by decide) fun d hd => ?_
          have td := isT_get sig_T hd
          refine ⟨_, hF5 D _ oD oD hc, Nat.lt_of_le_of_lt (show _ ≤ 50 by rw [tv_len]; omega) (by decide), hJ5.keep oD, Fr.cut (hF'.trans hF5) hF03 hD, cs ++ [[d]], ?_, by rw [List.length_append, hcl]; rfl, fun e he => ?_, fun e he => ?_⟩
          · rw [upd_same, tv_app]
            rfl
          · rcases List.mem_append.mp he with h | h
            · exact hc1 e h
            · rw [List.mem_singleton.mp h]; rfl
          · rcases List.mem_append.mp he with h | h
            · exact hc2 e h
            · rw [List.mem_singleton.mp h]; exact td
        · obtain ⟨hJ', hF', cs, hc, hcl, hc1, hc2⟩ := hp
          walk_at "rd"
          have hfl := flat_len hc1
          refine jn_0 (lst_of (by rw [← tv_eq]; exact hc)) (by omega) ?_
          exact q _ H4 (by omega) (isT_flat hc2) hJ' hF'
end
end My

set_option Elab.async false
set_option linter.all false
set_option maxRecDepth 100000
set_option maxHeartbeats 1000000
namespace My
open PySem PySem.Spec PyProof.Rows L2
local macro_rules | `(tactic| walk_at "len") => `(tactic| first | assumption | omega | decide | (simp only [List.length_append, List.length_take, List.length_drop, List.length_cons, List.length_nil, List.length_replicate]; omega))
local macro_rules | `(tactic| walk_at "side") => `(tactic| first | assumption | exact Nat.zero_le _ | decide | omega)
local macro_rules | `(tactic| walk_at "rd1") => `(tactic| first
  | with_reducible refine s_seq ?_
  | with_reducible refine x_gsub ?_
  | with_reducible refine s_asg ?_
  | ((with_reducible refine s_gn ?_); dsimp only [List.set])
  | ((with_reducible refine x_var (v := ?rdv) ?rdhv ?_); (case rdhv => rfl))
  | with_reducible refine x_c ?_
  | with_reducible refine x_op ?_
  | with_reducible refine x_cons ?_
  | with_reducible refine x_nil ?_
  | with_reducible refine x_cb ?_
  | with_reducible refine x_call ?_
  | with_reducible refine x_callS ?_
  | with_reducible refine s_try ?_
  | with_reducible refine s_raise ?_
  | with_reducible refine s_if ?_
  | with_reducible refine s_ret ?_
  | with_reducible refine s_retN ?_
  | with_reducible refine s_next ?_
  | with_reducible refine s_brk ?_
  | with_reducible refine s_cont ?_
  | with_reducible refine s_drop ?_
  | with_reducible refine s_par ?_
  | with_reducible refine s_par3 ?_
  | ((with_reducible refine s_p2 ?_); dsimp only [List.set])
  | ((with_reducible refine s_p3 ?_); dsimp only [List.set])
  | with_reducible refine f_r1 ?_
  | with_reducible refine f_r2 ?_
  | with_reducible refine f_l ?_
  | with_reducible refine f_t ?_
  | with_reducible refine f_s ?_
  | with_reducible refine c_r1 ?_
  | with_reducible refine c_r2 ?_
  | with_reducible refine c_l ?_
  | with_reducible refine c_t ?_
  | with_reducible refine c_s ?_
  | with_reducible refine x_tst ?_
  | with_reducible refine x_tru ?_
  | with_reducible refine x_truB ?_
  | with_reducible refine x_bl2 ?_
  | with_reducible refine x_int ?_
  | with_reducible refine x_str ?_
  | with_reducible refine x_not ?_
  | with_reducible refine x_and ?_
  | with_reducible refine x_or ?_
  | with_reducible refine x_andV ?_
  | with_reducible refine x_orV ?_
  | with_reducible refine x_notV ?_
  | with_reducible refine x_if ?_
  | with_reducible refine x_yes ?_
  | with_reducible refine x_un ?_
  | with_reducible refine x_tup ?_
  | with_reducible refine x_lst ?_
  | with_reducible refine x_callK ?_
  | with_reducible refine x_callK0 ?_
  | with_reducible refine x_bm ?_
  | with_reducible refine x_bm0 ?_
  | with_reducible refine x_tyS ?_
  | with_reducible refine x_sl ?_
  | with_reducible refine x_nopart ?_
  | with_reducible refine x_part ?_
  | with_reducible refine x_fmt0 ?_
  | with_reducible refine x_gc ?_
  | with_reducible refine x_gz ?_
  | with_reducible refine x_ckw ?_
  | with_reducible refine x_fmt ?_
  | with_reducible refine x_chain ?_
  | with_reducible refine a_ii ?_
  | ((with_reducible refine sl_to ?rda ?rdb ?_); (case rda => walk_at "len"); (case rdb => walk_at "len"))
  | ((with_reducible refine sl_from ?rda ?rdb ?_); (case rda => walk_at "len"); (case rdb => walk_at "len"))
  | ((with_reducible refine sl_mid ?rda ?rdb ?rdc ?_); (case rda => walk_at "len"); (case rdb => walk_at "len"); (case rdc => walk_at "len"))
  | ((with_reducible refine a_SS ?rda ?_); (case rda => walk_at "len"))
  | ((with_reducible refine ln_S ?rda ?_); (case rda => walk_at "len"))
  | with_reducible refine e_SS ?_
  | with_reducible refine ne_SS ?_
  | with_reducible refine s_ii ?_
  | ((with_reducible refine md_ii ?rdc ?_); (case rdc => first | decide | assumption | omega))
  | with_reducible refine n_i ?_
  | with_reducible refine e_ii ?_
  | with_reducible refine e_bb ?_
  | with_reducible refine ne_ii ?_
  | with_reducible refine ne_bb ?_
  | with_reducible refine lt_ii ?_
  | with_reducible refine lt_ss ?_
  | with_reducible refine le_ii ?_
  | with_reducible refine gt_ii ?_
  | with_reducible refine gt_ss ?_
  | with_reducible refine ge_ii ?_
  | with_reducible refine e_ss ?_
  | with_reducible refine ne_ss ?_
  | with_reducible refine is_N ?_
  | with_reducible refine is_T ?_
  | with_reducible refine is_B ?_
  | with_reducible refine isn_N ?_
  | with_reducible refine isn_T ?_
  | with_reducible refine isn_B ?_
  | with_reducible refine in_s ?_
  | with_reducible refine nin_s ?_
  | with_reducible refine i_i ?_
  | with_reducible refine i_b ?_
  | with_reducible refine ab_i ?_
  | with_reducible refine mx_ii ?_
  | with_reducible refine mn_ii ?_
  | with_reducible refine ty_N ?_
  | with_reducible refine ty_B ?_
  | with_reducible refine ty_I ?_
  | with_reducible refine ty_S ?_
  | with_reducible refine ma_s ?_
  | with_reducible refine mp_s ?_
  | with_reducible refine mdg_s ?_
  | with_reducible refine mf_s ?_
  | with_reducible refine iteT ?_
  | with_reducible refine iteF ?_
  | with_reducible refine iteNt ?_
  | with_reducible refine iteNf ?_
  | with_reducible refine iteTd (by decide) ?_
  | with_reducible refine iteFd (by decide) ?_
  | with_reducible refine iteNd (by decide) ?_
  | with_reducible refine iteNdF (by decide) ?_
  | ((with_reducible refine iteFd ?rdn ?_); (case rdn => (intro rdz; cases rdz; done)))
  | ((with_reducible refine iteNdF ?rdn ?_); (case rdn => (intro rdz; cases rdz; done))))
local macro_rules | `(tactic| walk_at "rd") => `(tactic| (repeat walk_at "rd1"))
section
variable {P : Program} {w : World} {K : PySem.W.Frag} {mg : Str → Option Value} {base : Heap}
/-! the law's own code -/
theorem m_hit {H : Hp} {Q : VK} {σ : L2.St} {i : Nat} {c : Nat} (hi : σ[i]? = some (some (.str (S [c])))) (q : ∀ H', Same H H' → Q (.str (S (esc c))) H') :
    tDGet2 (tDisp [((tC (.str (S [32]))), (tC (.str (S [33, 97])))), ((tC (.str (S [33]))), (tC (.str (S [33, 98]))))]) (tVar i) (tVar i) σ H Q := by
  have hk : ∀ (m k : List (Key × V)), m = [(Sum.inr (S [32]), V.str (S [33, 97])), (Sum.inr (S [33]), V.str (S [33, 98]))] → mergeK [] m = m := by
    intro m k e
    subst e
    rfl
  refine x_disp fun p hp => ?_
  refine ⟨upd_same, [(Sum.inr (S [32]), V.str (S [33, 97])), (Sum.inr (S [33]), V.str (S [33, 98]))], rfl, (by show 2 ≤ 15; decide), ?_⟩
  rw [hk _ [] rfl]
  have hd : upd (upd H p (.dK [])) p (.dK [(Sum.inr (S [32]), V.str (S [33, 97])), (Sum.inr (S [33]), V.str (S [33, 98]))]) p = some (.dK [(Sum.inr (S [32]), V.str (S [33, 97])), (Sum.inr (S [33]), V.str (S [33, 98]))]) := upd_same
  have hS : Same H (upd (upd H p (.dK [])) p (.dK [(Sum.inr (S [32]), V.str (S [33, 97])), (Sum.inr (S [33]), V.str (S [33, 98]))])) := same_mut (same_upd hp) hp
  generalize upd (upd H p (.dK [])) p (.dK [(Sum.inr (S [32]), V.str (S [33, 97])), (Sum.inr (S [33]), V.str (S [33, 98]))]) = H2 at hd hS
  refine ⟨p, rfl, .inl ⟨_, .inl hd⟩, ?_⟩
  refine x_var hi ?_
  refine x_var hi ?_
  refine ⟨_, DGet.k (k := Sum.inr (S [c])) hd, ?_⟩
  have e : (valV [(Sum.inr (S [32]), V.str (S [33, 97])), (Sum.inr (S [33]), V.str (S [33, 98]))] (Sum.inr (S [c]) : Key)).getD (V.str (S [c])) = V.str (S (esc c)) := by
    unfold esc
    by_cases h : c = 33
    · subst h
      rfl
    · by_cases h2 : c = 32
      · subst h2
        rfl
      · rw [if_neg h, if_neg h2]
        have a1 : ¬ (32 = c) := fun z => h2 z.symm
        have a2 : ¬ (33 = c) := fun z => h z.symm
        unfold valV
        simp [List.find?, a1, a2]
  rw [e]
  exact q H2 hS
def sp__law_code (K : PySem.W.Frag) : Sp := fun vs H Q _ => ∃ (x : V) (d : PyData), vs = [x] ∧ Dp K H x d ∧ isVal d = true ∧ ∀ H', Same H H' → Q (.str (S (codeD d))) H'
theorem ok__law_code (Y : Fx K mg) : FnOk P w K mg base CX0 1 Y.a__law_code Y.fd__law_code ["_law_value_here"] (sp__law_code K) := by
  refine Y.F__law_code.ok sc__law_code (fun vs H Q E h => ?_) (fun cdv A outer st H vs Q E hr h => ?_)
  · obtain ⟨x, d, rfl, _⟩ := h
    rfl
  · obtain ⟨x, d, rfl, hx, hv, q⟩ := h
    refine ⟨_, b__law_code Y hr, ?_⟩
    show t__law_code K _ [some x, none, none, none, none] H
    unfold t__law_code
    rw [show ("0" : Str) = S [48] from rfl, show ("2" : Str) = S [50] from rfl, show ("1" : Str) = S [49] from rfl, show ("t" : Str) = S [116] from rfl, show ("o" : Str) = S [111] from rfl, show ("p" : Str) = S [112] from rfl, show ("n" : Str) = S [110] from rfl, show ("" : Str) = S [] from rfl, show (" " : Str) = S [32] from rfl, show ("!" : Str) = S [33] from rfl, show ("!a" : Str) = S [33, 97] from rfl, show ("!b" : Str) = S [33, 98] from rfl,
      show ("ABCDEFGHIJKLMNOPQRSTUVWXYZ[\\]^_" : Str) = S (cntL.drop 1 |>.take 31) from rfl, show ("9876543210" : Str) = S ninL from rfl]
    have hx' := hx
    cases hx with
    | non =>
      walk_at "rd"
      exact q H (Same.refl H)
    | bl b =>
      cases b with
      | true =>
        walk_at "rd"
        refine ⟨by show 2 ≤ sizeLine; decide, fun p hp => ?_⟩
        walk_at "rd"
        refine ix_L (lst_of upd_same) (by rfl) ?_
        exact q _ (same_upd hp)
      | false =>
        walk_at "rd"
        refine ⟨by show 2 ≤ sizeLine; decide, fun p hp => ?_⟩
        walk_at "rd"
        refine ix_L (lst_of upd_same) (by rfl) ?_
        exact q _ (same_upd hp)
    | int i =>
      have hi : i.natAbs < 10 ^ 30 := of_decide_eq_true hv
      have q' : ∀ H', Same H H' → Q (.str (S (intC i))) H' := q
      unfold intC at q'
      have h30 := num_len hi
      have h1 := num_pos i.natAbs
      walk_at "rd"
      refine isi_d hx' (kit_st hx') ?_
      walk_at "rd"
      refine iteF ?_
      walk_at "rd"
      refine ite2' (fun e => ?_) (fun e => ?_)
      · have e0 : i = 0 := of_decide_eq_true e
        rw [if_pos e0] at q'
        walk_at "rd"
        exact q' H (Same.refl H)
      · have e0 : i ≠ 0 := of_decide_eq_false e
        rw [if_neg e0] at q'
        walk_at "rd"
        rw [abs_nat]
        refine st_i (log_1920 (Nat.lt_trans hi (by decide))) ?_
        rw [show (toString (i.natAbs : Int) : Str) = S (TL.numL i.natAbs) from SX.num_S i.natAbs]
        generalize hds : TL.numL i.natAbs = ds at q' h30 h1
        have hdc : ∀ c ∈ ds, 48 ≤ c ∧ c ≤ 57 := by rw [← hds]; exact num_code
        have cn : ∀ {k c : Nat}, (cntL.drop 1 |>.take 31)[k]? = some c → c = 65 + k := by
          intro k c hc
          have hk : k < 31 := (List.getElem?_eq_some_iff.mp hc).1
          have h2 : ∀ j : _root_.Fin 31, (cntL.drop 1 |>.take 31)[j.val]? = some (65 + j.val) := by decide
          rw [h2 ⟨k, hk⟩] at hc
          cases hc
          rfl
        walk_at "rd"
        refine ite2' (fun e => ?_) (fun e => ?_)
        · have e1 : 0 < i := of_decide_eq_true e
          rw [if_pos e1] at q'
          walk_at "rd"
          refine ix_SS (by omega) (by show (ds.length : Int) - 1 < 31; omega) (by decide) fun c hc => ?_
          have hc2 := cn hc
          have hc3 : c = 64 + ds.length := by omega
          subst hc3
          walk_at "rd"
          exact q' H (Same.refl H)
        · have e1 : ¬ 0 < i := of_decide_eq_false e
          rw [if_neg e1] at q'
          walk_at "rd"
          refine ix_SS (by omega) (by show (31 : Int) - (ds.length : Int) < 31; omega) (by decide) fun c hc => ?_
          have hc2 := cn hc
          have hc3 : c = 96 - ds.length := by omega
          subst hc3
          walk_at "rd"
          refine lcS_mk (fun D j H' => Same H H' ∧ H' D = some (.lst (tv ((ds.take j).map fun c => [nine c])))) (fun D hD => ⟨same_upd hD, upd_same⟩) (fun D j c H' hD hc hP => ?_) (fun D H' hD hP => ?_)
          · obtain ⟨hS, hH⟩ := hP
            have hcd := hdc c (str_at hc)
            have hj := (List.getElem?_eq_some_iff.mp hc).1
            refine ⟨rfl, ?_⟩
            walk_at "rd"
            refine i_dig hcd ?_
            refine ix_SS (by omega) (by show (((c - 48 : Nat) : Int)) < 10; omega) (by decide) fun c2 hc2 => ?_
            have hc4 := nin_at hc2
            have hc5 : c2 = nine c := by
              unfold nine
              rw [Int.toNat_natCast] at hc4
              omega
            subst hc5
            refine ⟨_, hH, Nat.lt_of_le_of_lt (show _ ≤ 50 by rw [tv_len, List.length_map, List.length_take]; omega) (by decide), same_mut hS hD, ?_⟩
            rw [upd_same, take_snoc hc, List.map_append, tv_app]
            rfl
          · obtain ⟨hS, hH⟩ := hP
            rw [List.take_of_length_le (Nat.le_refl _)] at hH
            have hfl := flat_nine ds
            walk_at "rd"
            refine jn_0 (lst_of (by rw [← tv_eq]; exact hH)) (by rw [hfl, List.length_map]; omega) ?_
            rw [hfl]
            refine a_SS (by simp only [List.length_append, List.length_cons, List.length_nil, List.length_map]; omega) ?_
            exact q' H' hS
    | str z =>
      obtain ⟨l, rfl⟩ : ∃ l, z = S l := ⟨_, S_eta z⟩
      have hv2 : (isT l && decide (l.length ≤ 200)) = true := hv
      rw [Bool.and_eq_true] at hv2
      have hl := of_decide_eq_true hv2.2
      walk_at "rd"
      refine isi_d hx' (kit_st hx') ?_
      walk_at "rd"
      refine iteT ?_
      walk_at "rd"
      refine lcS_mk (fun D j H' => Same H H' ∧ H' D = some (.lst (tv ((l.take j).map esc)))) (fun D hD => ⟨same_upd hD, upd_same⟩) (fun D j c H' hD hc hP => ?_) (fun D H' hD hP => ?_)
      · obtain ⟨hS, hH⟩ := hP
        refine ⟨rfl, ?_⟩
        walk_at "rd"
        refine m_hit rfl fun H2 hS2 => ?_
        refine ⟨_, hS2 _ _ hH, Nat.lt_of_le_of_lt (show _ ≤ 200 by rw [tv_len, List.length_map, List.length_take]; omega) (by decide), same_mut (hS.trans hS2) hD, ?_⟩
        rw [upd_same, take_snoc hc, List.map_append, tv_app]
        rfl
      · obtain ⟨hS, hH⟩ := hP
        rw [List.take_of_length_le (Nat.le_refl _)] at hH
        have hfl : (l.map esc).flatten = l.flatMap esc := by rw [List.flatMap_def]
        have h2 : (l.flatMap esc).length ≤ 2 * l.length := flatMap_le (fun c => by unfold esc; split <;> (try split) <;> simp) l
        walk_at "rd"
        refine jn_0 (lst_of (by rw [← tv_eq]; exact hH)) (by rw [hfl]; omega) ?_
        rw [hfl]
        refine a_SS (by rw [List.length_singleton]; omega) ?_
        walk_at "rd"
        have e : [116] ++ l.flatMap esc ++ [32] = codeD (.str (S l)) := by
          show _ = [116] ++ (l.flatMap esc ++ [32])
          rw [List.append_assoc]
        rw [e]
        exact q H' hS
    | lst h _ => cases hv
    | tup h _ => cases hv
end
end My

set_option Elab.async false
set_option linter.all false
set_option maxRecDepth 100000
set_option maxHeartbeats 1000000
namespace My
open PySem PySem.Spec PyProof.Rows L2
local macro_rules | `(tactic| walk_at "len") => `(tactic| first | assumption | omega | decide | (simp only [List.length_append, List.length_take, List.length_drop, List.length_cons, List.length_nil, List.length_replicate]; omega))
local macro_rules | `(tactic| walk_at "side") => `(tactic| first | assumption | exact Nat.zero_le _ | decide | omega)
local macro_rules | `(tactic| walk_at "rd1") => `(tactic| first
  | with_reducible refine s_seq ?_
  | with_reducible refine x_gsub ?_
  | with_reducible refine s_asg ?_
  | ((with_reducible refine s_gn ?_); dsimp only [List.set])
  | ((with_reducible refine x_var (v := ?rdv) ?rdhv ?_); (case rdhv => rfl))
  | with_reducible refine x_c ?_
  | with_reducible refine x_op ?_
  | with_reducible refine x_cons ?_
  | with_reducible refine x_nil ?_
  | with_reducible refine x_cb ?_
  | with_reducible refine x_call ?_
  | with_reducible refine x_callS ?_
  | with_reducible refine s_try ?_
  | with_reducible refine s_raise ?_
  | with_reducible refine s_if ?_
  | with_reducible refine s_ret ?_
  | with_reducible refine s_retN ?_
  | with_reducible refine s_next ?_
  | with_reducible refine s_brk ?_
  | with_reducible refine s_cont ?_
  | with_reducible refine s_drop ?_
  | with_reducible refine s_par ?_
  | with_reducible refine s_par3 ?_
  | ((with_reducible refine s_p2 ?_); dsimp only [List.set])
  | ((with_reducible refine s_p3 ?_); dsimp only [List.set])
  | with_reducible refine f_r1 ?_
  | with_reducible refine f_r2 ?_
  | with_reducible refine f_l ?_
  | with_reducible refine f_t ?_
  | with_reducible refine f_s ?_
  | with_reducible refine c_r1 ?_
  | with_reducible refine c_r2 ?_
  | with_reducible refine c_l ?_
  | with_reducible refine c_t ?_
  | with_reducible refine c_s ?_
  | with_reducible refine x_tst ?_
  | with_reducible refine x_tru ?_
  | with_reducible refine x_truB ?_
  | with_reducible refine x_bl2 ?_
  | with_reducible refine x_int ?_
  | with_reducible refine x_str ?_
  | with_reducible refine x_not ?_
  | with_reducible refine x_and ?_
  | with_reducible refine x_or ?_
  | with_reducible refine x_andV ?_
  | with_reducible refine x_orV ?_
  | with_reducible refine x_notV ?_
  | with_reducible refine x_if ?_
  | with_reducible refine x_yes ?_
  | with_reducible refine x_un ?_
  | with_reducible refine x_tup ?_
  | with_reducible refine x_lst ?_
  | with_reducible refine x_callK ?_
  | with_reducible refine x_callK0 ?_
  | with_reducible refine x_bm ?_
  | with_reducible refine x_bm0 ?_
  | with_reducible refine x_tyS ?_
  | with_reducible refine x_sl ?_
  | with_reducible refine x_nopart ?_
  | with_reducible refine x_part ?_
  | with_reducible refine x_fmt0 ?_
  | with_reducible refine x_gc ?_
  | with_reducible refine x_gz ?_
  | with_reducible refine x_ckw ?_
  | with_reducible refine x_fmt ?_
  | with_reducible refine x_chain ?_
  | with_reducible refine a_ii ?_
  | ((with_reducible refine sl_to ?rda ?rdb ?_); (case rda => walk_at "len"); (case rdb => walk_at "len"))
  | ((with_reducible refine sl_from ?rda ?rdb ?_); (case rda => walk_at "len"); (case rdb => walk_at "len"))
  | ((with_reducible refine sl_mid ?rda ?rdb ?rdc ?_); (case rda => walk_at "len"); (case rdb => walk_at "len"); (case rdc => walk_at "len"))
  | ((with_reducible refine a_SS ?rda ?_); (case rda => walk_at "len"))
  | ((with_reducible refine ln_S ?rda ?_); (case rda => walk_at "len"))
  | with_reducible refine e_SS ?_
  | with_reducible refine ne_SS ?_
  | with_reducible refine s_ii ?_
  | ((with_reducible refine md_ii ?rdc ?_); (case rdc => first | decide | assumption | omega))
  | with_reducible refine n_i ?_
  | with_reducible refine e_ii ?_
  | with_reducible refine e_bb ?_
  | with_reducible refine ne_ii ?_
  | with_reducible refine ne_bb ?_
  | with_reducible refine lt_ii ?_
  | with_reducible refine lt_ss ?_
  | with_reducible refine le_ii ?_
  | with_reducible refine gt_ii ?_
  | with_reducible refine gt_ss ?_
  | with_reducible refine ge_ii ?_
  | with_reducible refine e_ss ?_
  | with_reducible refine ne_ss ?_
  | with_reducible refine is_N ?_
  | with_reducible refine is_T ?_
  | with_reducible refine is_B ?_
  | with_reducible refine isn_N ?_
  | with_reducible refine isn_T ?_
  | with_reducible refine isn_B ?_
  | with_reducible refine in_s ?_
  | with_reducible refine nin_s ?_
  | with_reducible refine i_i ?_
  | with_reducible refine i_b ?_
  | with_reducible refine ab_i ?_
  | with_reducible refine mx_ii ?_
  | with_reducible refine mn_ii ?_
  | with_reducible refine ty_N ?_
  | with_reducible refine ty_B ?_
  | with_reducible refine ty_I ?_
  | with_reducible refine ty_S ?_
  | with_reducible refine ma_s ?_
  | with_reducible refine mp_s ?_
  | with_reducible refine mdg_s ?_
  | with_reducible refine mf_s ?_
  | with_reducible refine iteT ?_
  | with_reducible refine iteF ?_
  | with_reducible refine iteNt ?_
  | with_reducible refine iteNf ?_
  | with_reducible refine iteTd (by decide) ?_
  | with_reducible refine iteFd (by decide) ?_
  | with_reducible refine iteNd (by decide) ?_
  | with_reducible refine iteNdF (by decide) ?_
  | ((with_reducible refine iteFd ?rdn ?_); (case rdn => (intro rdz; cases rdz; done)))
  | ((with_reducible refine iteNdF ?rdn ?_); (case rdn => (intro rdz; cases rdz; done))))
local macro_rules | `(tactic| walk_at "rd") => `(tactic| (repeat walk_at "rd1"))
section
variable {P : Program} {w : World} {K : PySem.W.Frag} {mg : Str → Option Value} {base : Heap}
/-! drawn numbers and values -/
theorem pow_le30 {m : Nat} (h : m ≤ 30) : (10 : Nat) ^ m ≤ 10 ^ 30 := Nat.pow_le_pow_right (by decide) h
def sp__law_number (K : PySem.W.Frag) : Sp := fun vs H Q _ => ∃ j : Addr, vs = [.ref j] ∧ JarAt H j ∧ ∀ (i : Int) H', i.natAbs < 10 ^ 30 → JarAt H' j → Fr j H H' → Q (.int i) H'
theorem ok__law_number (Y : Fx K mg) : FnOk P w K mg base CX0 2 Y.a__law_number Y.fd__law_number ["_law_jar_here"] (sp__law_number K) := by
  refine Y.F__law_number.ok sc__law_number (fun vs H Q E h => ?_) (fun cdv A outer st H vs Q E hr h => ?_)
  · obtain ⟨j, rfl, _⟩ := h
    rfl
  · obtain ⟨j, rfl, hJ, q⟩ := h
    refine ⟨_, b__law_number Y (ok__law_drawn Y) hr, ?_⟩
    show t__law_number K _ _ [some (.ref j), none, none, none, none, none, none] H
    unfold t__law_number
    walk_at "rd"
    refine ⟨j, 8, rfl, hJ, by decide, by decide, fun kd H1 kd0 kd1 hJ1 hF1 => ?_⟩
    walk_at "rd"
    refine ⟨j, 30, rfl, hJ1, by decide, by decide, fun r2 H2 r20 r21 hJ2 hF2 => ?_⟩
    walk_at "rd"
    refine ⟨j, 2, rfl, hJ2, by decide, by decide, fun bl H3 bl0 bl1 hJ3 hF3 => ?_⟩
    have hF03 := (hF1.trans hF2).trans hF3
    obtain ⟨mm, hmm⟩ : ∃ mm : Nat, 1 + r2 = ((mm + 1 : Nat) : Int) := ⟨r2.toNat, by omega⟩
    have hm29 : mm ≤ 29 := by omega
    rw [hmm]
    walk_at "rd"
    refine for1_mk (by omega) (by omega) (fun i σ H' => ∃ y5 : Option V, σ = [some (.ref j), some (.int kd), some (.int ((mm + 1 : Nat) : Int)), some (.int bl), some (.int ((10 ^ i : Nat) : Int)), y5, none] ∧ H' = H3) ⟨none, rfl, rfl⟩ (fun i σ H' hi hV => ?_) (fun σ H' hV => ?_)
    · obtain ⟨y5, rfl, rfl⟩ := hV
      walk_at "rd"
      refine m_ii (.inl (.inr (by decide))) ?_
      walk_at "rd"
      refine ⟨some (.int (i : Int)), ?_, rfl⟩
      rw [Nat.pow_succ, Int.natCast_mul]
      rfl
    · obtain ⟨y5, rfl, rfl⟩ := hV
      have hmi : (((mm + 1 : Nat) : Int) - 1).toNat = mm := by omega
      rw [hmi]
      have hp30 : 10 ^ mm * 10 ≤ 10 ^ 30 := by rw [← Nat.pow_succ]; exact pow_le30 (by omega)
      have hp1 : 1 ≤ 10 ^ mm := Nat.pos_of_ne_zero (by simp)
      -- the end, whatever was found
      have fin : ∀ (f : Int) (y5 : Option V) (H4 : Hp), 0 ≤ f → f < 10 ^ 30 → JarAt H4 j → Fr j H H4 →
          tRet (tIf (tTest (tOp (rEQ K) (tVar 3) (tC (.int 0)))) (tVar 6) (tOp rSUB (tC (.int 0)) (tVar 6))) { nx := fun _ H' => Q .non H', rt := Q } [some (.ref j), some (.int kd), some (.int ((mm + 1 : Nat) : Int)), some (.int bl), some (.int ((10 ^ mm : Nat) : Int)), y5, some (.int f)] H4 := by
        intro f y5 H4 f0 f1 hJ4 hF4
        walk_at "rd"
        refine ite2' (fun e => ?_) (fun e => ?_)
        · walk_at "rd"
          exact q f H4 (by omega) hJ4 hF4
        · walk_at "rd"
          exact q (0 - f) H4 (by omega) hJ4 hF4
      generalize 10 ^ mm = pw at hp30 hp1 fin
      walk_at "rd"
      refine ite2' (fun e => ?_) (fun e => ?_)
      · walk_at "rd"
        refine ⟨j, 12, rfl, hJ3, by decide, by decide, fun r4 H4 r40 r41 hJ4 hF4 => ?_⟩
        walk_at "rd1"
        walk_at "rd1"
        exact fin r4 _ H4 r40 (by omega) hJ4 (hF03.trans hF4)
      · walk_at "rd"
        refine ite2' (fun e => ?_) (fun e => ?_)
        · walk_at "rd"
          refine m_ii (.inl (.inr (by decide))) ?_
          walk_at "rd"
          refine ⟨by show 2 ≤ sizeLine; decide, fun p hp => ?_⟩
          walk_at "rd"
          have hk0 : 0 ≤ kd % 2 := Int.emod_nonneg _ (by decide)
          have hk1 : kd % 2 < 2 := Int.emod_lt_of_pos _ (by decide)
          refine ix_rng (lo := 0) (hi := 10 ^ 30 - 1) (lst_of upd_same) (rng_cons (by omega) (by omega) (rng_cons (by omega) (by omega) rng_nil)) hk0 hk1 fun z z0 z1 => ?_
          walk_at "rd1"
          walk_at "rd1"
          exact fin z _ _ z0 (by omega) (hJ3.new hp) (hF03.new hp)
        · walk_at "rd"
          refine ⟨j, 9, rfl, hJ3, by decide, by decide, fun r4 H4 r40 r41 hJ4 hF4 => ?_⟩
          walk_at "rd"
          rw [show ((mm + 1 : Nat) : Int) - 1 = (mm : Int) by omega]
          refine for1_mk (by omega) (by omega) (fun i σ H' => ∃ (y5 : Option V) (f : Nat), σ = [some (.ref j), some (.int kd), some (.int ((mm + 1 : Nat) : Int)), some (.int bl), some (.int (pw : Int)), y5, some (.int (f : Int))] ∧ f < 10 ^ (i + 1) ∧ JarAt H' j ∧ Fr j H H') ⟨_, (1 + r4).toNat, by rw [show (((1 + r4).toNat : Nat) : Int) = 1 + r4 by omega], by show (1 + r4).toNat < 10; omega, hJ4, hF03.trans hF4⟩ (fun i σ H' hi hV => ?_) (fun σ H' hV => ?_)
          · obtain ⟨y5, f, rfl, hf, hJ', hF'⟩ := hV
            walk_at "rd"
            refine m_ii (.inl (.inr (by decide))) ?_
            walk_at "rd"
            refine ⟨j, 10, rfl, hJ', by decide, by decide, fun r5 H5 r50 r51 hJ5 hF5 => ?_⟩
            walk_at "rd"
            refine ⟨_, f * 10 + r5.toNat, by rw [show ((f * 10 + r5.toNat : Nat) : Int) = (f : Int) * 10 + r5 by omega], ?_, hJ5, hF'.trans hF5⟩
            rw [Nat.pow_succ]
            omega
          · obtain ⟨y5, f, rfl, hf, hJ', hF'⟩ := hV
            have h30 := pow_le30 (m := mm + 1) (by omega)
            rw [Int.toNat_natCast] at hf
            refine fin (f : Int) y5 H' (by omega) ?_ hJ' hF'
            have : f < 10 ^ 30 := Nat.lt_of_lt_of_le hf h30
            omega
def AtV (K : PySem.W.Frag) (x : V) (d : PyData) : Prop := ∀ H, Dp K H x d
def GoodAll (K : PySem.W.Frag) (xs : List V) : Prop := ∀ x ∈ xs, ∃ d, AtV K x d ∧ isVal d = true
theorem good_nil : GoodAll K [] := fun _ h => by cases h
theorem good_cons {x : V} {d : PyData} {xs : List V} (h1 : AtV K x d) (h2 : isVal d = true) (h : GoodAll K xs) : GoodAll K (x :: xs) := fun y hy => by
  rcases List.mem_cons.mp hy with rfl | hy
  · exact ⟨d, h1, h2⟩
  · exact h y hy
theorem good_app {xs ys : List V} (h1 : GoodAll K xs) (h2 : GoodAll K ys) : GoodAll K (xs ++ ys) := fun x hx => (List.mem_append.mp hx).elim (h1 x) (h2 x)
theorem at_non : AtV K .non .none := fun _ => .non
theorem at_bl (b : Bool) : AtV K (.bl b) (.bool b) := fun _ => .bl b
theorem at_int (i : Int) : AtV K (.int i) (.int i) := fun _ => .int i
theorem at_str (l : List Nat) : AtV K (.str (S l)) (.str (S l)) := fun _ => .str _
theorem val_str {l : List Nat} (h1 : isT l = true) (h2 : l.length ≤ 200) : isVal (.str (S l)) = true := by
  show (isT l && decide (l.length ≤ 200)) = true
  rw [h1, decide_eq_true h2]
  rfl
theorem val_int {i : Int} (h : i.natAbs < 10 ^ 30) : isVal (.int i) = true := decide_eq_true h
def sp__law_value (K : PySem.W.Frag) : Sp := fun vs H Q _ => ∃ j : Addr, vs = [.ref j] ∧ JarAt H j ∧ ∀ x d H', AtV K x d → isVal d = true → JarAt H' j → Fr j H H' → Q x H'
theorem ok__law_value (Y : Fx K mg) : FnOk P w K mg base CX0 3 Y.a__law_value Y.fd__law_value ["_law_jar_here"] (sp__law_value K) := by
  refine Y.F__law_value.ok sc__law_value (fun vs H Q E h => ?_) (fun cdv A outer st H vs Q E hr h => ?_)
  · obtain ⟨j, rfl, _⟩ := h
    rfl
  · obtain ⟨j, rfl, hJ, q⟩ := h
    refine ⟨_, b__law_value Y (ok__law_drawn Y) (ok__law_number Y) (ok__law_text Y) hr, ?_⟩
    show t__law_value K _ _ _ _ [some (.ref j), none] H
    unfold t__law_value
    walk_at "rd"
    refine ⟨j, 9, rfl, hJ, by decide, by decide, fun kd H1 kd0 kd1 hJ1 hF1 => ?_⟩
    walk_at "rd"
    refine ite2' (fun e => ?_) (fun e => ?_)
    · have e1 : kd < 3 := of_decide_eq_true e
      walk_at "rd"
      refine ⟨by show 3 ≤ sizeLine; decide, fun p hp => ?_⟩
      walk_at "rd"
      refine ix_L (lst_of upd_same) (at_in kd0 (show kd < ((([V.non, .bl false, .bl true] : List V).length : Nat) : Int) from e1)) ?_
      have hg : GoodAll K [V.non, .bl false, .bl true] := good_cons at_non rfl (good_cons (at_bl _) rfl (good_cons (at_bl _) rfl good_nil))
      obtain ⟨d, h1, h2⟩ := hg _ (List.getElem_mem (show kd.toNat < 3 by omega))
      exact q _ d _ h1 h2 (hJ1.new hp) (hF1.new hp)
    · walk_at "rd"
      refine ite2' (fun e => ?_) (fun e => ?_)
      · walk_at "rd"
        exact ⟨j, rfl, hJ1, fun i H2 hi hJ2 hF2 => q _ _ H2 (at_int i) (val_int hi) hJ2 (hF1.trans hF2)⟩
      · walk_at "rd"
        exact ⟨j, rfl, hJ1, fun l H2 hl hT hJ2 hF2 => q _ _ H2 (at_str l) (val_str hT hl) hJ2 (hF1.trans hF2)⟩
/-! values that have no code -/
def ChrAll (xs : List V) : Prop := ∀ x ∈ xs, ∃ c : Nat, isT [c] = true ∧ x = V.str (S [c])
theorem chr_nil : ChrAll [] := fun _ h => by cases h
theorem chr_cons {c : Nat} {xs : List V} (h2 : isT [c] = true) (h : ChrAll xs) : ChrAll (.str (S [c]) :: xs) := fun x hx => by
  rcases List.mem_cons.mp hx with rfl | hx
  · exact ⟨c, h2, rfl⟩
  · exact h x hx
theorem ix_chr {H : Hp} {Q : VK} {p : Addr} {zs : List V} {i : Int} (hp : SqL K H p zs) (ha : ChrAll zs) (h0 : 0 ≤ i) (h1 : i < (zs.length : Int)) (q : ∀ c : Nat, isT [c] = true → Q (.str (S [c])) H) : rIX K (.ref p) (.int i) H Q := by
  refine ix_L hp (at_in h0 h1) ?_
  have hi : i.toNat < zs.length := by omega
  obtain ⟨c, b, e⟩ := ha zs[i.toNat] (List.getElem_mem hi)
  rw [e]
  exact q c b
def BadV (K : PySem.W.Frag) (H : Hp) (x : V) : Prop := ∃ d, Dp K H x d ∧ isVal d = false ∧ SzOk d
def BadAll (K : PySem.W.Frag) (H : Hp) (xs : List V) : Prop := ∀ x ∈ xs, BadV K H x
theorem bad_nil {H : Hp} : BadAll K H [] := fun _ h => by cases h
theorem bad_cons {H : Hp} {x : V} {xs : List V} (h1 : BadV K H x) (h : BadAll K H xs) : BadAll K H (x :: xs) := fun y hy => by
  rcases List.mem_cons.mp hy with rfl | hy
  · exact h1
  · exact h y hy
theorem bad_app {H : Hp} {xs ys : List V} (h1 : BadAll K H xs) (h2 : BadAll K H ys) : BadAll K H (xs ++ ys) := fun x hx => (List.mem_append.mp hx).elim (h1 x) (h2 x)
theorem BadV.mono {H H' : Hp} {x : V} (e : Same H H') (h : BadV K H x) : BadV K H' x := by
  obtain ⟨d, h1, h2⟩ := h
  exact ⟨d, dp_mono e _ _ h1, h2⟩
theorem BadAll.mono {H H' : Hp} {xs : List V} (e : Same H H') (h : BadAll K H xs) : BadAll K H' xs := fun x hx => (h x hx).mono e
theorem bad_long {H : Hp} {l : List Nat} (h1 : 200 < l.length) (h2 : l.length ≤ 100000) : BadV K H (.str (S l)) := by
  refine ⟨.str (S l), .str _, ?_, h2⟩
  show (isT l && decide (l.length ≤ 200)) = false
  rw [decide_eq_false (by omega), Bool.and_false]
theorem bad_sign {H : Hp} {l : List Nat} (h1 : isT l = false) (h2 : l.length ≤ 100000) : BadV K H (.str (S l)) := by
  refine ⟨.str (S l), .str _, ?_, h2⟩
  show (isT l && decide (l.length ≤ 200)) = false
  rw [h1, Bool.false_and]
theorem bad_int {H : Hp} {i : Int} (h : 10 ^ 30 ≤ i.natAbs) : BadV K H (.int i) := ⟨.int i, .int _, decide_eq_false (by omega), trivial⟩
theorem bad_lst {H : Hp} {p : Addr} {xs : List V} {ds : List PyData} (h : SqL K H p xs) (hd : DpAll K H xs ds) : BadV K H (.ref p) := ⟨.list ds, .lst h hd, rfl, trivial⟩
theorem bad_tup {H : Hp} {p : Addr} {xs : List V} {ds : List PyData} (h : SqT K H p xs) (hd : DpAll K H xs ds) : BadV K H (.ref p) := ⟨.tuple ds, .tup h hd, rfl, trivial⟩
def sp__law_bent (K : PySem.W.Frag) : Sp := fun vs H Q _ => ∃ j : Addr, vs = [.ref j] ∧ JarAt H j ∧ ∀ x H', BadV K H' x → JarAt H' j → Fr j H H' → Q x H'
theorem ok__law_bent (Y : Fx K mg) : FnOk P w K mg base CX0 3 Y.a__law_bent Y.fd__law_bent ["_law_jar_here"] (sp__law_bent K) := by
  refine Y.F__law_bent.ok sc__law_bent (fun vs H Q E h => ?_) (fun cdv A outer st H vs Q E hr h => ?_)
  · obtain ⟨j, rfl, _⟩ := h
    rfl
  · obtain ⟨j, rfl, hJ, q⟩ := h
    refine ⟨_, b__law_bent Y (ok__law_drawn Y) (ok__law_text Y) hr, ?_⟩
    show t__law_bent K _ _ _ [some (.ref j), none, none, none, none, none, none] H
    unfold t__law_bent
    rw [show (" " : Str) = S [32] from rfl, show ("a" : Str) = S [97] from rfl, show ("\n" : Str) = S [10] from rfl, show ("\t" : Str) = S [9] from rfl, show ("a\nb" : Str) = S [97, 10, 98] from rfl]
    walk_at "rd"
    refine ⟨j, 20, rfl, hJ, by decide, by decide, fun at' H1 at0 at1 hJ1 hF1 => ?_⟩
    walk_at "rd"
    refine ⟨j, 2, rfl, hJ1, by decide, by decide, fun sd H2 sd0 sd1 hJ2 hF2 => ?_⟩
    have hF02 := hF1.trans hF2
    walk_at "rd"
    refine pw_ii ⟨by decide, by decide, by decide⟩ ?_
    walk_at "rd"
    refine ⟨j, 9, rfl, hJ2, by decide, by decide, fun r3 H3 r30 r31 hJ3 hF3 => ?_⟩
    walk_at "rd"
    refine m_ii (.inl (.inr ⟨by omega, by omega⟩)) ?_
    walk_at "rd"
    refine ⟨j, 10, rfl, hJ3, by decide, by decide, fun r4 H4 r40 r41 hJ4 hF4 => ?_⟩
    walk_at "rd"
    refine pw_ii ⟨by decide, by decide, by decide⟩ ?_
    refine m_ii (.inl (.inl ⟨by omega, by omega⟩)) ?_
    have hF04 := (hF02.trans hF3).trans hF4
    clear hF1 hF2 hF02 hF3 hF4 hJ hJ1 hJ2 hJ3
    walk_at "rd"
    have hpw : 10 ^ 30 ≤ 10 ^ Int.toNat 30 * (1 + r3) + r4 * 10 ^ Int.toNat 20 := by
      show (10 : Int) ^ 30 ≤ (10 : Int) ^ 30 * (1 + r3) + r4 * (10 : Int) ^ 20
      omega
    generalize 10 ^ Int.toNat 30 * (1 + r3) + r4 * 10 ^ Int.toNat 20 = pw at hpw
    refine ⟨j, rfl, hJ4, fun l H5 hl hT hJ5 hF5 => ?_⟩
    have hF05 := hF04.trans hF5
    clear hF04 hF5 hJ4 r30 r31 r40 r41
    walk_at "rd"
    refine ⟨by show 2 ≤ sizeLine; decide, fun p1 hp1 => ?_⟩
    walk_at "rd"

    refine ix_chr (lst_of upd_same) (chr_cons (c := 32) (by decide) (chr_cons (c := 97) (by decide) chr_nil)) sd0 sd1 fun c hcT => ?_
    have hJ6 := hJ5.new hp1 (o := .lst [V.str (S [32]), .str (S [97])])
    have hF06 := hF05.new hp1 (o := .lst [V.str (S [32]), .str (S [97])])
    show (fun v H' => _ : VK) (.str (S [c])) (upd H5 p1 (.lst [V.str (S [32]), .str (S [97])]))
    generalize upd H5 p1 (.lst [V.str (S [32]), .str (S [97])]) = H6 at hJ6 hF06
    clear hJ5 hF05 hp1 sd0 sd1
    walk_at "rd"
    refine m_SI (by omega) (by omega) (by rw [List.length_singleton]; omega) ?_
    rw [rep1]
    have l1 : (List.replicate (201 - (l.length : Int)).toNat c).length = (201 - (l.length : Int)).toNat := List.length_replicate
    have u1 : isT (List.replicate (201 - (l.length : Int)).toNat c) = true := rep1_isT hcT
    generalize List.replicate (201 - (l.length : Int)).toNat c = R at l1 u1
    walk_at "rd"
    refine pw_ii ⟨by decide, by decide, by decide⟩ ?_
    walk_at "rd"
    refine pw_ii ⟨by decide, by decide, by decide⟩ ?_
    walk_at "rd"
    refine pw_ii ⟨by decide, by decide, by decide⟩ ?_
    walk_at "rd"
    have e9 : (Int.toNat 9) = 9 := rfl
    rw [e9]
    refine ⟨by show 9 ≤ sizeLine; decide, fun t0 ht0 => ?_⟩
    have s0 := same_upd ht0 (o := .lst [V.str (S (l ++ R)), .str (S (R ++ l)), .int pw, .int (0 - pw), .int (10 ^ Int.toNat 30), .int (0 - 10 ^ Int.toNat 30), .int (10 ^ Int.toNat 60), .str (S (l.take 9 ++ [10])), .str (S ([9] ++ l.take 9))])
    have f0 : (upd H6 t0 (.lst [V.str (S (l ++ R)), .str (S (R ++ l)), .int pw, .int (0 - pw), .int (10 ^ Int.toNat 30), .int (0 - 10 ^ Int.toNat 30), .int (10 ^ Int.toNat 60), .str (S (l.take 9 ++ [10])), .str (S ([9] ++ l.take 9))])) t0 = some (.lst [V.str (S (l ++ R)), .str (S (R ++ l)), .int pw, .int (0 - pw), .int (10 ^ Int.toNat 30), .int (0 - 10 ^ Int.toNat 30), .int (10 ^ Int.toNat 60), .str (S (l.take 9 ++ [10])), .str (S ([9] ++ l.take 9))]) := upd_same
    generalize upd H6 t0 (.lst [V.str (S (l ++ R)), .str (S (R ++ l)), .int pw, .int (0 - pw), .int (10 ^ Int.toNat 30), .int (0 - 10 ^ Int.toNat 30), .int (10 ^ Int.toNat 60), .str (S (l.take 9 ++ [10])), .str (S ([9] ++ l.take 9))]) = H7 at s0 f0 ⊢
    walk_at "rd"
    refine ⟨by show 0 ≤ sizeLine; decide, fun t1 ht1 => ?_⟩
    have s1 := same_upd ht1 (o := .tup [])
    have f1 : (upd H7 t1 (.tup [])) t1 = some (.tup []) := upd_same
    generalize upd H7 t1 (.tup []) = H8 at s1 f1 ⊢
    walk_at "rd"
    refine ⟨by show 1 ≤ sizeLine; decide, fun t2 ht2 => ?_⟩
    have s2 := same_upd ht2 (o := .tup [V.int 1])
    have f2 : (upd H8 t2 (.tup [V.int 1])) t2 = some (.tup [V.int 1]) := upd_same
    generalize upd H8 t2 (.tup [V.int 1]) = H9 at s2 f2 ⊢
    walk_at "rd"
    refine ⟨by show 1 ≤ sizeLine; decide, fun t3 ht3 => ?_⟩
    have s3 := same_upd ht3 (o := .lst [V.int 1])
    have f3 : (upd H9 t3 (.lst [V.int 1])) t3 = some (.lst [V.int 1]) := upd_same
    generalize upd H9 t3 (.lst [V.int 1]) = H10 at s3 f3 ⊢
    walk_at "rd"
    refine ⟨by show 1 ≤ sizeLine; decide, fun t4 ht4 => ?_⟩
    have s4 := same_upd ht4 (o := .tup [V.str (S [97])])
    have f4 : (upd H10 t4 (.tup [V.str (S [97])])) t4 = some (.tup [V.str (S [97])]) := upd_same
    generalize upd H10 t4 (.tup [V.str (S [97])]) = H11 at s4 f4 ⊢
    walk_at "rd"
    refine ⟨by show 0 ≤ sizeLine; decide, fun t5 ht5 => ?_⟩
    have s5 := same_upd ht5 (o := .lst [])
    have f5 : (upd H11 t5 (.lst [])) t5 = some (.lst []) := upd_same
    generalize upd H11 t5 (.lst []) = H12 at s5 f5 ⊢
    walk_at "rd"
    refine ⟨by show 1 ≤ sizeLine; decide, fun t6 ht6 => ?_⟩
    have s6 := same_upd ht6 (o := .lst [V.str (S [97])])
    have f6 : (upd H12 t6 (.lst [V.str (S [97])])) t6 = some (.lst [V.str (S [97])]) := upd_same
    generalize upd H12 t6 (.lst [V.str (S [97])]) = H13 at s6 f6 ⊢
    walk_at "rd"
    refine ⟨by show 1 ≤ sizeLine; decide, fun t7 ht7 => ?_⟩
    have s7 := same_upd ht7 (o := .tup [V.non])
    have f7 : (upd H13 t7 (.tup [V.non])) t7 = some (.tup [V.non]) := upd_same
    generalize upd H13 t7 (.tup [V.non]) = H14 at s7 f7 ⊢
    walk_at "rd"
    refine ⟨by show 1 ≤ sizeLine; decide, fun t8 ht8 => ?_⟩
    have s8 := same_upd ht8 (o := .lst [V.str (S l)])
    have f8 : (upd H14 t8 (.lst [V.str (S l)])) t8 = some (.lst [V.str (S l)]) := upd_same
    generalize upd H14 t8 (.lst [V.str (S l)]) = H15 at s8 f8 ⊢
    walk_at "rd"
    refine ⟨by show 1 ≤ sizeLine; decide, fun t9 ht9 => ?_⟩
    have s9 := same_upd ht9 (o := .tup [V.str (S l)])
    have f9 : (upd H15 t9 (.tup [V.str (S l)])) t9 = some (.tup [V.str (S l)]) := upd_same
    generalize upd H15 t9 (.tup [V.str (S l)]) = H16 at s9 f9 ⊢
    walk_at "rd"
    refine ⟨by show 11 ≤ sizeLine; decide, fun ta hta => ?_⟩
    have sa := same_upd hta (o := .lst [V.str (S (l ++ R ++ l)), .ref t1, .ref t2, .ref t3, .ref t4, .ref t5, .ref t6, .ref t7, .str (S [97, 10, 98]), .ref t8, .ref t9])
    have fa : (upd H16 ta (.lst [V.str (S (l ++ R ++ l)), .ref t1, .ref t2, .ref t3, .ref t4, .ref t5, .ref t6, .ref t7, .str (S [97, 10, 98]), .ref t8, .ref t9])) ta = some (.lst [V.str (S (l ++ R ++ l)), .ref t1, .ref t2, .ref t3, .ref t4, .ref t5, .ref t6, .ref t7, .str (S [97, 10, 98]), .ref t8, .ref t9]) := upd_same
    generalize upd H16 ta (.lst [V.str (S (l ++ R ++ l)), .ref t1, .ref t2, .ref t3, .ref t4, .ref t5, .ref t6, .ref t7, .str (S [97, 10, 98]), .ref t8, .ref t9]) = H17 at sa fa ⊢
    have z9 : Same H16 H17 := sa
    have z8 : Same H15 H17 := s9.trans z9
    have z7 : Same H14 H17 := s8.trans z8
    have z6 : Same H13 H17 := s7.trans z7
    have z5 : Same H12 H17 := s6.trans z6
    have z4 : Same H11 H17 := s5.trans z5
    have z3 : Same H10 H17 := s4.trans z4
    have z2 : Same H9 H17 := s3.trans z3
    have z1 : Same H8 H17 := s2.trans z2
    have z0 : Same H7 H17 := s1.trans z1
    refine a_ll (z0 _ _ f0) fa (by show 20 ≤ sizeLine; decide) fun tb htb => ?_
    have sb := same_upd htb (o := .lst ([V.str (S (l ++ R)), .str (S (R ++ l)), .int pw, .int (0 - pw), .int (10 ^ Int.toNat 30), .int (0 - 10 ^ Int.toNat 30), .int (10 ^ Int.toNat 60), .str (S (l.take 9 ++ [10])), .str (S ([9] ++ l.take 9))] ++ [V.str (S (l ++ R ++ l)), .ref t1, .ref t2, .ref t3, .ref t4, .ref t5, .ref t6, .ref t7, .str (S [97, 10, 98]), .ref t8, .ref t9]))
    walk_at "rd"
    have hall : BadAll K H17 ([V.str (S (l ++ R)), .str (S (R ++ l)), .int pw, .int (0 - pw), .int (10 ^ Int.toNat 30), .int (0 - 10 ^ Int.toNat 30), .int (10 ^ Int.toNat 60), .str (S (l.take 9 ++ [10])), .str (S ([9] ++ l.take 9))] ++ [V.str (S (l ++ R ++ l)), .ref t1, .ref t2, .ref t3, .ref t4, .ref t5, .ref t6, .ref t7, .str (S [97, 10, 98]), .ref t8, .ref t9]) := by
      have tk : (l.take 9).length ≤ 9 := by rw [List.length_take]; omega
      refine bad_app (bad_cons (bad_long (by rw [List.length_append]; omega) (by rw [List.length_append]; omega)) (bad_cons (bad_long (by rw [List.length_append]; omega) (by rw [List.length_append]; omega)) (bad_cons (bad_int (by omega)) (bad_cons (bad_int (by omega)) (bad_cons (bad_int (by show 10 ^ 30 ≤ ((10 : Int) ^ 30).natAbs; decide +kernel)) (bad_cons (bad_int (by show 10 ^ 30 ≤ (0 - (10 : Int) ^ 30).natAbs; decide +kernel)) (bad_cons (bad_int (by show 10 ^ 30 ≤ ((10 : Int) ^ 60).natAbs; decide +kernel)) (bad_cons (bad_sign (by rw [isT_app]; exact Bool.and_false _) (by rw [List.length_append, List.length_singleton]; omega)) (bad_cons (bad_sign (by rw [isT_app]; rfl) (by rw [List.length_append, List.length_singleton]; omega)) bad_nil))))))))) ?_
      refine bad_cons (bad_long (by rw [List.length_append, List.length_append]; omega) (by rw [List.length_append, List.length_append]; omega)) (bad_cons (bad_tup (tup_of (z1 _ _ f1)) .nil) (bad_cons (bad_tup (tup_of (z2 _ _ f2)) (.cons (.int _) .nil)) (bad_cons (bad_lst (lst_of (z3 _ _ f3)) (.cons (.int _) .nil)) (bad_cons (bad_tup (tup_of (z4 _ _ f4)) (.cons (.str _) .nil)) (bad_cons (bad_lst (lst_of (z5 _ _ f5)) .nil) (bad_cons (bad_lst (lst_of (z6 _ _ f6)) (.cons (.str _) .nil)) (bad_cons (bad_tup (tup_of (z7 _ _ f7)) (.cons .non .nil)) (bad_cons (bad_sign (by decide) (by decide)) (bad_cons (bad_lst (lst_of (z8 _ _ f8)) (.cons (.str _) .nil)) (bad_cons (bad_tup (tup_of (z9 _ _ f9)) (.cons (.str _) .nil)) bad_nil))))))))))
    have hlt : at' < (([V.str (S (l ++ R)), .str (S (R ++ l)), .int pw, .int (0 - pw), .int (10 ^ Int.toNat 30), .int (0 - 10 ^ Int.toNat 30), .int (10 ^ Int.toNat 60), .str (S (l.take 9 ++ [10])), .str (S ([9] ++ l.take 9))] ++ [V.str (S (l ++ R ++ l)), .ref t1, .ref t2, .ref t3, .ref t4, .ref t5, .ref t6, .ref t7, .str (S [97, 10, 98]), .ref t8, .ref t9]).length : Int) := at1
    refine ix_L (lst_of upd_same) (at_in at0 hlt) ?_
    refine q _ _ ((hall _ (List.getElem_mem _)).mono sb) ((hJ6.same (s0.trans z0)).same sb) ((hF06.trans (Frm.of (s0.trans z0))).trans (Frm.of sb))
def valueL : List Nat := [118, 97, 108, 117, 101]
def sp__law_told (K : PySem.W.Frag) : Sp := fun vs H Q _ => ∃ (x : V) (d : PyData), vs = [x] ∧ Dp K H x d ∧ SzOk d ∧ (isVal d = true → ∀ p H', Same H H' → H' p = some (.tup [.str (S (codeD d))]) → Q (.ref p) H') ∧ (isVal d = false → ∀ H', Same H H' → Q (.str (S valueL)) H')
theorem ok__law_told (Y : Fx K mg) : FnOk P w K mg base CX0 4 Y.a__law_told Y.fd__law_told ["_law_value_here"] (sp__law_told K) := by
  refine Y.F__law_told.ok sc__law_told (fun vs H Q E h => ?_) (fun cdv A outer st H vs Q E hr h => ?_)
  · obtain ⟨x, d, rfl, _⟩ := h
    rfl
  · obtain ⟨x, d, rfl, hx, hz, q1, q2⟩ := h
    refine ⟨_, b__law_told Y (sp_value_code := sp_value_code Y.x_InvalidValue) (ok_value_code Y) hr, ?_⟩
    show t__law_told K Y _ _ [some x, none] H
    unfold t__law_told
    rw [show ("value" : Str) = S valueL from rfl]
    walk_at "rd"
    refine ⟨x, d, rfl, hx, hz, fun hv H' hS => ?_, fun hv => ?_⟩
    · walk_at "rd"
      refine ⟨by show 1 ≤ sizeLine; decide, fun p hp => ?_⟩
      walk_at "rd"
      exact q1 hv p _ (same_new hS hp) upd_same
    · refine w_hit Y.m_InvalidValue_InvalidValue fun a _ => ?_
      walk_at "rd"
      exact q2 hv H (Same.refl H)
end
end My

set_option Elab.async false
set_option linter.all false
set_option maxRecDepth 100000
set_option maxHeartbeats 2000000
namespace My
open PySem PySem.Spec PyProof.Rows L2
local macro_rules | `(tactic| walk_at "len") => `(tactic| first | assumption | omega | decide | (simp only [List.length_append, List.length_take, List.length_drop, List.length_cons, List.length_nil, List.length_replicate]; omega))
local macro_rules | `(tactic| walk_at "side") => `(tactic| first | assumption | exact Nat.zero_le _ | decide | omega)
local macro_rules | `(tactic| walk_at "rd1") => `(tactic| first
  | with_reducible refine s_seq ?_
  | with_reducible refine x_gsub ?_
  | with_reducible refine s_asg ?_
  | ((with_reducible refine s_gn ?_); dsimp only [List.set])
  | ((with_reducible refine x_var (v := ?rdv) ?rdhv ?_); (case rdhv => rfl))
  | with_reducible refine x_c ?_
  | with_reducible refine x_op ?_
  | with_reducible refine x_cons ?_
  | with_reducible refine x_nil ?_
  | with_reducible refine x_cb ?_
  | with_reducible refine x_call ?_
  | with_reducible refine x_callS ?_
  | with_reducible refine s_try ?_
  | with_reducible refine s_raise ?_
  | with_reducible refine s_if ?_
  | with_reducible refine s_ret ?_
  | with_reducible refine s_retN ?_
  | with_reducible refine s_next ?_
  | with_reducible refine s_brk ?_
  | with_reducible refine s_cont ?_
  | with_reducible refine s_drop ?_
  | with_reducible refine s_par ?_
  | with_reducible refine s_par3 ?_
  | ((with_reducible refine s_p2 ?_); dsimp only [List.set])
  | ((with_reducible refine s_p3 ?_); dsimp only [List.set])
  | with_reducible refine f_r1 ?_
  | with_reducible refine f_r2 ?_
  | with_reducible refine f_l ?_
  | with_reducible refine f_t ?_
  | with_reducible refine f_s ?_
  | with_reducible refine c_r1 ?_
  | with_reducible refine c_r2 ?_
  | with_reducible refine c_l ?_
  | with_reducible refine c_t ?_
  | with_reducible refine c_s ?_
  | with_reducible refine x_tst ?_
  | with_reducible refine x_tru ?_
  | with_reducible refine x_truB ?_
  | with_reducible refine x_bl2 ?_
  | with_reducible refine x_int ?_
  | with_reducible refine x_str ?_
  | with_reducible refine x_not ?_
  | with_reducible refine x_and ?_
  | with_reducible refine x_or ?_
  | with_reducible refine x_andV ?_
  | with_reducible refine x_orV ?_
  | with_reducible refine x_notV ?_
  | with_reducible refine x_if ?_
  | with_reducible refine x_yes ?_
  | with_reducible refine x_un ?_
  | with_reducible refine x_tup ?_
  | with_reducible refine x_lst ?_
  | with_reducible refine x_callK ?_
  | with_reducible refine x_callK0 ?_
  | with_reducible refine x_bm ?_
  | with_reducible refine x_bm0 ?_
  | with_reducible refine x_tyS ?_
  | with_reducible refine x_sl ?_
  | with_reducible refine x_nopart ?_
  | with_reducible refine x_part ?_
  | with_reducible refine x_fmt0 ?_
  | with_reducible refine x_gc ?_
  | with_reducible refine x_gz ?_
  | with_reducible refine x_ckw ?_
  | with_reducible refine x_fmt ?_
  | with_reducible refine x_chain ?_
  | with_reducible refine a_ii ?_
  | ((with_reducible refine sl_to ?rda ?rdb ?_); (case rda => walk_at "len"); (case rdb => walk_at "len"))
  | ((with_reducible refine sl_from ?rda ?rdb ?_); (case rda => walk_at "len"); (case rdb => walk_at "len"))
  | ((with_reducible refine sl_mid ?rda ?rdb ?rdc ?_); (case rda => walk_at "len"); (case rdb => walk_at "len"); (case rdc => walk_at "len"))
  | ((with_reducible refine a_SS ?rda ?_); (case rda => walk_at "len"))
  | ((with_reducible refine ln_S ?rda ?_); (case rda => walk_at "len"))
  | with_reducible refine e_SS ?_
  | with_reducible refine ne_SS ?_
  | with_reducible refine s_ii ?_
  | ((with_reducible refine md_ii ?rdc ?_); (case rdc => first | decide | assumption | omega))
  | with_reducible refine n_i ?_
  | with_reducible refine e_ii ?_
  | with_reducible refine e_bb ?_
  | with_reducible refine ne_ii ?_
  | with_reducible refine ne_bb ?_
  | with_reducible refine lt_ii ?_
  | with_reducible refine lt_ss ?_
  | with_reducible refine le_ii ?_
  | with_reducible refine gt_ii ?_
  | with_reducible refine gt_ss ?_
  | with_reducible refine ge_ii ?_
  | with_reducible refine e_ss ?_
  | with_reducible refine ne_ss ?_
  | with_reducible refine is_N ?_
  | with_reducible refine is_T ?_
  | with_reducible refine is_B ?_
  | with_reducible refine isn_N ?_
  | with_reducible refine isn_T ?_
  | with_reducible refine isn_B ?_
  | with_reducible refine in_s ?_
  | with_reducible refine nin_s ?_
  | with_reducible refine i_i ?_
  | with_reducible refine i_b ?_
  | with_reducible refine ab_i ?_
  | with_reducible refine mx_ii ?_
  | with_reducible refine mn_ii ?_
  | with_reducible refine ty_N ?_
  | with_reducible refine ty_B ?_
  | with_reducible refine ty_I ?_
  | with_reducible refine ty_S ?_
  | with_reducible refine ma_s ?_
  | with_reducible refine mp_s ?_
  | with_reducible refine mdg_s ?_
  | with_reducible refine mf_s ?_
  | with_reducible refine iteT ?_
  | with_reducible refine iteF ?_
  | with_reducible refine iteNt ?_
  | with_reducible refine iteNf ?_
  | with_reducible refine iteTd (by decide) ?_
  | with_reducible refine iteFd (by decide) ?_
  | with_reducible refine iteNd (by decide) ?_
  | with_reducible refine iteNdF (by decide) ?_
  | ((with_reducible refine iteFd ?rdn ?_); (case rdn => (intro rdz; cases rdz; done)))
  | ((with_reducible refine iteNdF ?rdn ?_); (case rdn => (intro rdz; cases rdz; done))))
local macro_rules | `(tactic| walk_at "rd") => `(tactic| (repeat walk_at "rd1"))
section
variable {P : Program} {w : World} {K : PySem.W.Frag} {mg : Str → Option Value} {base : Heap}
theorem isT_codeD {d : PyData} (h : isVal d = true) : isT (codeD d) = true := by
  cases d with
  | none => decide
  | bool b => cases b <;> decide
  | int i =>
    have hi : i.natAbs < 10 ^ 30 := of_decide_eq_true h
    have h30 := num_len hi
    have hc := num_code (n := i.natAbs)
    show isT (intC i) = true
    unfold intC
    generalize TL.numL i.natAbs = ds at h30 hc
    split
    · decide
    · split
      · refine isT_of fun c hm => ?_
        rcases List.mem_append.mp hm with hm | hm
        · rcases List.mem_append.mp hm with hm | hm
          · rw [List.mem_singleton.mp hm]; omega
          · rw [List.mem_singleton.mp hm]; omega
        · have := hc c hm; omega
      · refine isT_of fun c hm => ?_
        rcases List.mem_append.mp hm with hm | hm
        · rcases List.mem_append.mp hm with hm | hm
          · rw [List.mem_singleton.mp hm]; omega
          · rw [List.mem_singleton.mp hm]; omega
        · obtain ⟨e, he, rfl⟩ := List.mem_map.mp hm
          have := hc e he
          unfold nine
          omega
  | str z =>
    have h2 : (isT z.cps.toList && decide (z.cps.toList.length ≤ 200)) = true := h
    rw [Bool.and_eq_true] at h2
    have hT := h2.1
    show isT ([116] ++ (z.cps.toList.flatMap esc ++ [32])) = true
    rw [isT_app, isT_app]
    have e : isT (z.cps.toList.flatMap esc) = true := isT_of fun c hm => by
      obtain ⟨e, he, hc⟩ := List.mem_flatMap.mp hm
      have hb := isT_mem hT he
      unfold esc at hc
      split at hc
      · rcases List.mem_cons.mp hc with rfl | hc
        · omega
        · rw [List.mem_singleton.mp hc]; omega
      · split at hc
        · rcases List.mem_cons.mp hc with rfl | hc
          · omega
          · rw [List.mem_singleton.mp hc]; omega
        · rw [List.mem_singleton.mp hc]; omega
    rw [e]
    rfl
  | _ => cases h
theorem shaped_tup1 {l : List Nat} (h : isT l = true) : SeqAt.shaped (.tuple [.str (S l)]) = true := by
  have hb : PyData.strOk (S l) = true := by
    unfold PyData.strOk
    rw [← Array.all_toList, S_cps, List.all_eq_true]
    intro c hc
    have := isT_mem h hc
    exact decide_eq_true (by omega)
  unfold SeqAt.shaped
  simp [PyData.canLay0, PyData.canLayAll0, PyData.depth, PyData.depthAll, hb]
def spLaw (K : PySem.W.Frag) : Sp := fun vs H Q _ => ∃ (a : Addr) (ns : List Int), vs = [.ref a] ∧ SqL K H a (ns.map V.int) ∧ ns.length ≤ 63 ∧ ∀ H', Q (.bl true) H'
theorem ok_law (Y : Fx K mg) : FnOk P w K mg base CX0 5 Y.a_law Y.fd_law ["_law_script"] (spLaw K) := by
  refine Y.F_law.ok sc_law (fun vs H Q E h => ?_) (fun cdv A outer st H vs Q E hr h => ?_)
  · obtain ⟨a, ns, rfl, _⟩ := h
    rfl
  · obtain ⟨a, ns, rfl, hS, hl, q⟩ := h
    refine ⟨_, b_law Y (sp_value_code := sp_value_code Y.x_InvalidValue) (ok__law_bent Y) (ok__law_code Y) (ok__law_jar Y) (ok__law_signs Y) (ok__law_told Y) (ok__law_value Y) (ok_value_code Y) hr, ?_⟩
    show t_law K _ _ _ _ _ _ _ _ [some (.ref a), none, none, none, none, none] H
    unfold t_law
    rw [show ("" : Str) = S [] from rfl, show (" " : Str) = S [32] from rfl, show ("!" : Str) = S [33] from rfl, show ("!a" : Str) = S [33, 97] from rfl, show ("!b" : Str) = S [33, 98] from rfl, show (" a" : Str) = S [32, 97] from rfl, show ("0" : Str) = S [48] from rfl, show ("t" : Str) = S [116] from rfl, show ("o" : Str) = S [111] from rfl, show ("a" : Str) = S [97] from rfl, show ("value" : Str) = S valueL from rfl]
    walk_at "rd"
    refine pw_ii ⟨by decide, by decide, by decide⟩ ?_
    walk_at "rd"
    refine pw_ii ⟨by decide, by decide, by decide⟩ ?_
    walk_at "rd"
    refine pw_ii ⟨by decide, by decide, by decide⟩ ?_
    walk_at "rd"
    refine pw_ii ⟨by decide, by decide, by decide⟩ ?_
    walk_at "rd"
    refine ⟨by show 16 ≤ sizeLine; decide, fun p1 hp1 => ?_⟩
    walk_at "rd"
    refine m_SI (by decide) (by decide) (by decide) ?_
    rw [rep1]
    walk_at "rd"
    refine m_SI (by decide) (by decide) (by decide) ?_
    rw [rep1]
    walk_at "rd"
    refine m_SI (by decide) (by decide) (by decide) ?_
    rw [rep1]
    walk_at "rd"
    refine ⟨rfl, ?_⟩
    walk_at "rd"
    refine ⟨by show 13 ≤ sizeLine; decide, fun p2 hp2 => ?_⟩
    refine a_ll (same_upd hp2 _ _ upd_same) upd_same (by show 29 ≤ sizeLine; decide) fun p3 hp3 => ?_
    have hG : GoodAll K ([V.non, V.bl false, V.bl true, V.int 0, V.int 1, V.int (-1), V.int 9, V.int (-9), V.int 10, V.int (-10), V.int 99, V.int (-99), V.int (10 ^ Int.toNat 30 - 1), V.int (1 - 10 ^ Int.toNat 30), V.int (10 ^ Int.toNat 29), V.int (0 - 10 ^ Int.toNat 29)] ++ [V.str (S []), V.str (S [32]), V.str (S [33]), V.str (S [33, 97]), V.str (S [33, 98]), V.str (S [32, 97]), V.str (S [48]), V.str (S [116]), V.str (S [111]), V.str (S (List.replicate (Int.toNat 200) 97)), V.str (S (List.replicate (Int.toNat 200) 32)), V.str (S (List.replicate (Int.toNat 200) 33)), V.str (S sigL)]) := good_app (good_cons at_non rfl (good_cons (at_bl _) rfl (good_cons (at_bl _) rfl (good_cons (at_int _) (val_int (by decide)) (good_cons (at_int _) (val_int (by decide)) (good_cons (at_int _) (val_int (by decide)) (good_cons (at_int _) (val_int (by decide)) (good_cons (at_int _) (val_int (by decide)) (good_cons (at_int _) (val_int (by decide)) (good_cons (at_int _) (val_int (by decide)) (good_cons (at_int _) (val_int (by decide)) (good_cons (at_int _) (val_int (by decide)) (good_cons (at_int _) (val_int (by decide +kernel)) (good_cons (at_int _) (val_int (by decide +kernel)) (good_cons (at_int _) (val_int (by decide +kernel)) (good_cons (at_int _) (val_int (by decide +kernel)) good_nil)))))))))))))))) (good_cons (at_str _) (val_str (by decide) (by decide)) (good_cons (at_str _) (val_str (by decide) (by decide)) (good_cons (at_str _) (val_str (by decide) (by decide)) (good_cons (at_str _) (val_str (by decide) (by decide)) (good_cons (at_str _) (val_str (by decide) (by decide)) (good_cons (at_str _) (val_str (by decide) (by decide)) (good_cons (at_str _) (val_str (by decide) (by decide)) (good_cons (at_str _) (val_str (by decide) (by decide)) (good_cons (at_str _) (val_str (by decide) (by decide)) (good_cons (at_str _) (val_str (rep1_isT (by decide)) (by rw [List.length_replicate]; decide)) (good_cons (at_str _) (val_str (rep1_isT (by decide)) (by rw [List.length_replicate]; decide)) (good_cons (at_str _) (val_str (rep1_isT (by decide)) (by rw [List.length_replicate]; decide)) (good_cons (at_str _) (val_str (by decide) (by decide)) good_nil)))))))))))))
    have hp33 : (upd (upd (upd H p1 (.lst [V.non, V.bl false, V.bl true, V.int 0, V.int 1, V.int (-1), V.int 9, V.int (-9), V.int 10, V.int (-10), V.int 99, V.int (-99), V.int (10 ^ Int.toNat 30 - 1), V.int (1 - 10 ^ Int.toNat 30), V.int (10 ^ Int.toNat 29), V.int (0 - 10 ^ Int.toNat 29)])) p2 (.lst [V.str (S []), V.str (S [32]), V.str (S [33]), V.str (S [33, 97]), V.str (S [33, 98]), V.str (S [32, 97]), V.str (S [48]), V.str (S [116]), V.str (S [111]), V.str (S (List.replicate (Int.toNat 200) 97)), V.str (S (List.replicate (Int.toNat 200) 32)), V.str (S (List.replicate (Int.toNat 200) 33)), V.str (S sigL)])) p3 (.lst ([V.non, V.bl false, V.bl true, V.int 0, V.int 1, V.int (-1), V.int 9, V.int (-9), V.int 10, V.int (-10), V.int 99, V.int (-99), V.int (10 ^ Int.toNat 30 - 1), V.int (1 - 10 ^ Int.toNat 30), V.int (10 ^ Int.toNat 29), V.int (0 - 10 ^ Int.toNat 29)] ++ [V.str (S []), V.str (S [32]), V.str (S [33]), V.str (S [33, 97]), V.str (S [33, 98]), V.str (S [32, 97]), V.str (S [48]), V.str (S [116]), V.str (S [111]), V.str (S (List.replicate (Int.toNat 200) 97)), V.str (S (List.replicate (Int.toNat 200) 32)), V.str (S (List.replicate (Int.toNat 200) 33)), V.str (S sigL)]))) p3 = some (.lst ([V.non, V.bl false, V.bl true, V.int 0, V.int 1, V.int (-1), V.int 9, V.int (-9), V.int 10, V.int (-10), V.int 99, V.int (-99), V.int (10 ^ Int.toNat 30 - 1), V.int (1 - 10 ^ Int.toNat 30), V.int (10 ^ Int.toNat 29), V.int (0 - 10 ^ Int.toNat 29)] ++ [V.str (S []), V.str (S [32]), V.str (S [33]), V.str (S [33, 97]), V.str (S [33, 98]), V.str (S [32, 97]), V.str (S [48]), V.str (S [116]), V.str (S [111]), V.str (S (List.replicate (Int.toNat 200) 97)), V.str (S (List.replicate (Int.toNat 200) 32)), V.str (S (List.replicate (Int.toNat 200) 33)), V.str (S sigL)])) := upd_same
    have hS3 : Same H (upd (upd (upd H p1 (.lst [V.non, V.bl false, V.bl true, V.int 0, V.int 1, V.int (-1), V.int 9, V.int (-9), V.int 10, V.int (-10), V.int 99, V.int (-99), V.int (10 ^ Int.toNat 30 - 1), V.int (1 - 10 ^ Int.toNat 30), V.int (10 ^ Int.toNat 29), V.int (0 - 10 ^ Int.toNat 29)])) p2 (.lst [V.str (S []), V.str (S [32]), V.str (S [33]), V.str (S [33, 97]), V.str (S [33, 98]), V.str (S [32, 97]), V.str (S [48]), V.str (S [116]), V.str (S [111]), V.str (S (List.replicate (Int.toNat 200) 97)), V.str (S (List.replicate (Int.toNat 200) 32)), V.str (S (List.replicate (Int.toNat 200) 33)), V.str (S sigL)])) p3 (.lst ([V.non, V.bl false, V.bl true, V.int 0, V.int 1, V.int (-1), V.int 9, V.int (-9), V.int 10, V.int (-10), V.int 99, V.int (-99), V.int (10 ^ Int.toNat 30 - 1), V.int (1 - 10 ^ Int.toNat 30), V.int (10 ^ Int.toNat 29), V.int (0 - 10 ^ Int.toNat 29)] ++ [V.str (S []), V.str (S [32]), V.str (S [33]), V.str (S [33, 97]), V.str (S [33, 98]), V.str (S [32, 97]), V.str (S [48]), V.str (S [116]), V.str (S [111]), V.str (S (List.replicate (Int.toNat 200) 97)), V.str (S (List.replicate (Int.toNat 200) 32)), V.str (S (List.replicate (Int.toNat 200) 33)), V.str (S sigL)]))) := ((same_upd hp1).trans (same_upd hp2)).trans (same_upd hp3)
    have hXl : ([V.non, V.bl false, V.bl true, V.int 0, V.int 1, V.int (-1), V.int 9, V.int (-9), V.int 10, V.int (-10), V.int 99, V.int (-99), V.int (10 ^ Int.toNat 30 - 1), V.int (1 - 10 ^ Int.toNat 30), V.int (10 ^ Int.toNat 29), V.int (0 - 10 ^ Int.toNat 29)] ++ [V.str (S []), V.str (S [32]), V.str (S [33]), V.str (S [33, 97]), V.str (S [33, 98]), V.str (S [32, 97]), V.str (S [48]), V.str (S [116]), V.str (S [111]), V.str (S (List.replicate (Int.toNat 200) 97)), V.str (S (List.replicate (Int.toNat 200) 32)), V.str (S (List.replicate (Int.toNat 200) 33)), V.str (S sigL)]).length ≤ 29 := Nat.le_refl _
    generalize upd (upd (upd H p1 (.lst [V.non, V.bl false, V.bl true, V.int 0, V.int 1, V.int (-1), V.int 9, V.int (-9), V.int 10, V.int (-10), V.int 99, V.int (-99), V.int (10 ^ Int.toNat 30 - 1), V.int (1 - 10 ^ Int.toNat 30), V.int (10 ^ Int.toNat 29), V.int (0 - 10 ^ Int.toNat 29)])) p2 (.lst [V.str (S []), V.str (S [32]), V.str (S [33]), V.str (S [33, 97]), V.str (S [33, 98]), V.str (S [32, 97]), V.str (S [48]), V.str (S [116]), V.str (S [111]), V.str (S (List.replicate (Int.toNat 200) 97)), V.str (S (List.replicate (Int.toNat 200) 32)), V.str (S (List.replicate (Int.toNat 200) 33)), V.str (S sigL)])) p3 (.lst ([V.non, V.bl false, V.bl true, V.int 0, V.int 1, V.int (-1), V.int 9, V.int (-9), V.int 10, V.int (-10), V.int 99, V.int (-99), V.int (10 ^ Int.toNat 30 - 1), V.int (1 - 10 ^ Int.toNat 30), V.int (10 ^ Int.toNat 29), V.int (0 - 10 ^ Int.toNat 29)] ++ [V.str (S []), V.str (S [32]), V.str (S [33]), V.str (S [33, 97]), V.str (S [33, 98]), V.str (S [32, 97]), V.str (S [48]), V.str (S [116]), V.str (S [111]), V.str (S (List.replicate (Int.toNat 200) 97)), V.str (S (List.replicate (Int.toNat 200) 32)), V.str (S (List.replicate (Int.toNat 200) 33)), V.str (S sigL)])) = H3 at hp33 hS3 ⊢
    generalize [V.non, V.bl false, V.bl true, V.int 0, V.int 1, V.int (-1), V.int 9, V.int (-9), V.int 10, V.int (-10), V.int 99, V.int (-99), V.int (10 ^ Int.toNat 30 - 1), V.int (1 - 10 ^ Int.toNat 30), V.int (10 ^ Int.toNat 29), V.int (0 - 10 ^ Int.toNat 29)] ++ [V.str (S []), V.str (S [32]), V.str (S [33]), V.str (S [33, 97]), V.str (S [33, 98]), V.str (S [32, 97]), V.str (S [48]), V.str (S [116]), V.str (S [111]), V.str (S (List.replicate (Int.toNat 200) 97)), V.str (S (List.replicate (Int.toNat 200) 32)), V.str (S (List.replicate (Int.toNat 200) 33)), V.str (S sigL)] = XS at hG hp33 hXl
    clear hp1 hp2 hp3
    replace hS := hS3.seq hS
    clear hS3
    walk_at "rd"
    refine forL_mk (lst_of hp33) (fun i σ H' => ∃ y2 : Option V, σ = [some (.ref a), some (.ref p3), y2, none, none, none] ∧ Same H3 H') ⟨none, rfl, Same.refl _⟩ (fun i σ H' _ hV => lst_of (by obtain ⟨_, _, e⟩ := hV; exact e _ _ hp33)) (fun i x σ H' hx hV => ?_) (fun σ H' hV => ?_)
    · obtain ⟨y2, rfl, hS'⟩ := hV
      obtain ⟨d, hA, hv⟩ := hG x (List.mem_of_getElem? hx)
      have cT := isT_codeD hv
      walk_at "rd"
      refine ⟨x, d, rfl, hA _, SzOk.val hv, fun _ p H5 hS5 hp => ?_, fun e => by rw [hv] at e; cases e⟩
      walk_at "rd"
      refine ⟨x, d, rfl, hA _, hv, fun H6 hS6 => ?_⟩
      walk_at "rd"
      refine ⟨by show 1 ≤ sizeLine; decide, fun p' hp' => ?_⟩
      have hS7 := same_upd hp' (o := .tup [V.str (S (codeD d))])
      refine ne_d (.tup (tup_of (hS7 _ _ (hS6 _ _ hp))) (.cons (.str _) .nil)) (.tup (tup_of upd_same) (.cons (.str _) .nil)) (shaped_tup1 cT) (shaped_tup1 cT) ?_
      rw [eqv_same (shaped_tup1 cT)]
      walk_at "rd"
      exact ⟨_, rfl, ((hS'.trans hS5).trans hS6).trans hS7⟩
    · obtain ⟨y2, rfl, hS'⟩ := hV
      replace hS := hS'.seq hS
      clear hS' hp33 hG hXl
      walk_at "rd"
      refine ⟨by show 1 ≤ sizeLine; decide, fun p4 hp4 => ?_⟩
      walk_at "rd"
      refine sl_L ((same_upd hp4).seq hS) fun p5 hp5 => ?_
      rw [show (some (40 : Int)) = some ((40 : Nat) : Int) from rfl, cutV_to, ← List.map_take]
      refine a_ll (same_upd hp5 _ _ upd_same) upd_same (by rw [List.length_map, List.length_take]; show 1 + _ ≤ sizeLine; exact Nat.le_trans (show 1 + min 40 ns.length ≤ 41 by omega) (by decide)) fun p6 hp6 => ?_
      have e6 : [V.int 7] ++ (ns.take 40).map V.int = (7 :: ns.take 40).map V.int := rfl
      rw [e6]
      generalize hL : (7 :: ns.take 40) = L
      have h66 : (upd (upd (upd H' p4 (.lst [V.int 7])) p5 (.lst ((ns.take 40).map V.int))) p6 (.lst (L.map V.int))) p6 = some (.lst (L.map V.int)) := upd_same
      generalize upd (upd (upd H' p4 (.lst [V.int 7])) p5 (.lst ((ns.take 40).map V.int))) p6 (.lst (L.map V.int)) = H6 at h66 ⊢
      refine forL_mk (lst_of h66) (fun i σ H' => ∃ y2 y3 y4 y5 : Option V, σ = [some (.ref a), some (.ref p3), y2, y3, y4, y5] ∧ Same H6 H') ⟨_, _, _, _, rfl, Same.refl _⟩ (fun i σ H' _ hV => lst_of (by obtain ⟨_, _, _, _, _, e⟩ := hV; exact e _ _ h66)) (fun i x σ H' hx hV => ?_) (fun σ H' hV => ?_)
      · obtain ⟨y2, y3, y4, y5, rfl, hS'⟩ := hV
        obtain ⟨z, _, rfl⟩ := map_get hx
        walk_at "rd"
        refine ⟨z, rfl, fun j H7 hj hJ7 hS7 => ?_⟩
        walk_at "rd"
        refine ⟨j, rfl, hJ7, fun x d H8 hA hv hJ8 hF8 => ?_⟩
        have hF78 : Same H' H8 := hF8.same hS7 hj hj
        have cT := isT_codeD hv
        walk_at "rd"
        refine ⟨x, d, rfl, hA _, SzOk.val hv, fun _ p H9 hS9 hp => ?_, fun e => by rw [hv] at e; cases e⟩
        have hdp : Dp K H9 (.ref p) (.tuple [.str (S (codeD d))]) := .tup (tup_of hp) (.cons (.str _) .nil)
        walk_at "rd"
        refine isi_d hdp (kit_tu hdp) ?_
        walk_at "rd"
        refine iteNt ?_
        walk_at "rd"
        refine ix_T (tup_of hp) (by rfl) ?_
        walk_at "rd"
        have hds : Dp K H9 (.str (S (codeD d))) (.str (S (codeD d))) := .str _
        refine isi_d hds (kit_st hds) ?_
        walk_at "rd"
        refine iteNt ?_
        walk_at "rd"
        refine ix_T (tup_of hp) (by rfl) ?_
        walk_at "rd"
        refine ⟨x, d, rfl, hA _, hv, fun H10 hS10 => ?_⟩
        walk_at "rd"
        refine iteNd rfl ?_
        walk_at "rd"
        have hS810 := hS9.trans hS10
        refine ⟨j, rfl, hJ8.same hS810, fun xb H11 hb hJ11 hF11 => ?_⟩
        obtain ⟨db, hdb, hvb, hzb⟩ := hb
        have hF11' : Same H' H11 := hF11.same (hF78.trans hS810) hj hj
        walk_at "rd"
        refine ⟨xb, db, rfl, hdb, hzb, (fun e => by rw [hvb] at e; cases e), fun _ H12 hS12 => ?_⟩
        walk_at "rd"
        refine ⟨x, d, rfl, hA _, SzOk.val hv, fun _ H13 hS13 => ?_, fun e => by rw [hv] at e; cases e⟩
        walk_at "rd"
        refine ⟨x, d, rfl, hA _, hv, fun H14 hS14 => ?_⟩
        walk_at "rd"
        refine iteNd rfl ?_
        walk_at "rd"
        exact ⟨_, _, _, _, rfl, hS'.trans (((hF11'.trans hS12).trans hS13).trans hS14)⟩
      · obtain ⟨y2, y3, y4, y5, rfl, hS'⟩ := hV
        walk_at "rd"
        exact q _
end
end My

set_option Elab.async false
set_option linter.all false
set_option maxRecDepth 100000
set_option maxHeartbeats 2000000
namespace My
open PySem PySem.Spec PyProof.Rows L2
theorem rel_kb_value_code_0 {vs : List V} {us : List Value} {zs : List V} {ws : List Value} (r1 : Vals vs us) (r2 : Vals zs ws) : Vals (gV_kb_value_code_0 vs zs) (g_kb_value_code_0 us ws) := by
  cases r1 with
  | cons _ _ => exact .nil
  | nil =>
    cases r2 with
    | nil => exact .nil
    | cons y0 r2 =>
      cases r2 with
      | cons _ _ => exact .nil
      | nil =>
        exact (.cons y0 .nil)

theorem kbm_kb_value_code_0 {K : PySem.W.Frag} {f : Addr} {fd : FuncData} (F : Fun K "value_code" "value_code" s_value_code f fd) : KBinds K fd ["value"] ["value"] g_kb_value_code_0 gV_kb_value_code_0 := by
  obtain ⟨oc, od, kV, doc, pm, an, cdv, ct, osl, rfl, lk, hcd⟩ := F.ex
  refine ⟨fun s us ws _ hl => ?_, rel_kb_value_code_0⟩
  have hp : ∃ y0, us = [] ∧ ws = [y0] := by
    unfold g_kb_value_code_0 at hl
    split at hl
    · exact ⟨_, rfl, rfl⟩
    · cases hl
  obtain ⟨y0, rfl, rfl⟩ := hp
  exact BindsTo.of_eq rfl
theorem exm_pair {K : PySem.W.Frag} {R S : Addr} {b : Bool} (h1 : PySem.W.subIn K (.ref S) (.type "BaseException") = some true) (h2 : PySem.W.isClsIn K S = true) (h3 : PySem.W.typeIn K (.ref S) = some (.type "type")) (h4 : PySem.W.subIn K (.ref R) (.ref S) = some b) :
    PySem.W.exmOne K (.ref R) (.ref S) = some b := by
  have e1 : (PySem.W.subIn K (.ref S) (.type "BaseException") == some true) = true := by rw [h1] <;> rfl
  have e2 : ((PySem.W.clsIn K S).isSome && PySem.W.typeIn K (.ref S) == some (.type "type")) = true := by
    have h2' : (PySem.W.clsIn K S).isSome = true := h2
    rw [h2', h3] <;> rfl
  show (if (PySem.W.subIn K (.ref S) (.type "BaseException") == some true) = true then (if ((PySem.W.clsIn K S).isSome && PySem.W.typeIn K (.ref S) == some (.type "type")) = true then PySem.W.subIn K (.ref R) (.ref S) else none) else none) = some b
  rw [if_pos e1, if_pos e2]
  exact h4
def fx_mk {K : PySem.W.Frag} {h : Heap} {mg : Str → Option Value} (X : K.In h) (G : h.Ns mainGlobals mg)
    {f0 : Addr} {od0 an0 : Option Addr} {sl0 : Array (Option Value)} {oc0 kV0 dc0 pm0 cd0 ct0 : Value}
    (a0 : PySem.W.nsIn K mainGlobals "is_text" = some (some (.ref f0))) (l0 : K.lookup f0 = some ⟨oc0, od0, .func (PySem.W.fnOf "is_text" "is_text" (defArgs s_is_text) (defBody s_is_text) (defScope s_is_text) .none kV0 dc0 pm0 an0 cd0 ct0), sl0⟩) (c0 : PySem.W.codeIn K cd0 "is_text" = true) (k0 : PySem.W.keepIn K (.ref f0) = true)
    {f1 : Addr} {od1 an1 : Option Addr} {sl1 : Array (Option Value)} {oc1 kV1 dc1 pm1 cd1 ct1 : Value}
    (a1 : PySem.W.nsIn K mainGlobals "is_value" = some (some (.ref f1))) (l1 : K.lookup f1 = some ⟨oc1, od1, .func (PySem.W.fnOf "is_value" "is_value" (defArgs s_is_value) (defBody s_is_value) (defScope s_is_value) .none kV1 dc1 pm1 an1 cd1 ct1), sl1⟩) (c1 : PySem.W.codeIn K cd1 "is_value" = true) (k1 : PySem.W.keepIn K (.ref f1) = true)
    {f2 : Addr} {od2 an2 : Option Addr} {sl2 : Array (Option Value)} {oc2 kV2 dc2 pm2 cd2 ct2 : Value}
    (a2 : PySem.W.nsIn K mainGlobals "value_code" = some (some (.ref f2))) (l2 : K.lookup f2 = some ⟨oc2, od2, .func (PySem.W.fnOf "value_code" "value_code" (defArgs s_value_code) (defBody s_value_code) (defScope s_value_code) .none kV2 dc2 pm2 an2 cd2 ct2), sl2⟩) (c2 : PySem.W.codeIn K cd2 "value_code" = true) (k2 : PySem.W.keepIn K (.ref f2) = true)
    {f3 : Addr} {od3 an3 : Option Addr} {sl3 : Array (Option Value)} {oc3 kV3 dc3 pm3 cd3 ct3 : Value}
    (a3 : PySem.W.nsIn K mainGlobals "integer_code" = some (some (.ref f3))) (l3 : K.lookup f3 = some ⟨oc3, od3, .func (PySem.W.fnOf "integer_code" "integer_code" (defArgs s_integer_code) (defBody s_integer_code) (defScope s_integer_code) .none kV3 dc3 pm3 an3 cd3 ct3), sl3⟩) (c3 : PySem.W.codeIn K cd3 "integer_code" = true) (k3 : PySem.W.keepIn K (.ref f3) = true)
    {f4 : Addr} {od4 an4 : Option Addr} {sl4 : Array (Option Value)} {oc4 kV4 dc4 pm4 cd4 ct4 : Value}
    (a4 : PySem.W.nsIn K mainGlobals "text_code" = some (some (.ref f4))) (l4 : K.lookup f4 = some ⟨oc4, od4, .func (PySem.W.fnOf "text_code" "text_code" (defArgs s_text_code) (defBody s_text_code) (defScope s_text_code) .none kV4 dc4 pm4 an4 cd4 ct4), sl4⟩) (c4 : PySem.W.codeIn K cd4 "text_code" = true) (k4 : PySem.W.keepIn K (.ref f4) = true)
    {f5 : Addr} {od5 an5 : Option Addr} {sl5 : Array (Option Value)} {oc5 kV5 dc5 pm5 cd5 ct5 : Value}
    (a5 : PySem.W.nsIn K mainGlobals "_law_jar" = some (some (.ref f5))) (l5 : K.lookup f5 = some ⟨oc5, od5, .func (PySem.W.fnOf "_law_jar" "_law_jar" (defArgs s__law_jar) (defBody s__law_jar) (defScope s__law_jar) .none kV5 dc5 pm5 an5 cd5 ct5), sl5⟩) (c5 : PySem.W.codeIn K cd5 "_law_jar" = true) (k5 : PySem.W.keepIn K (.ref f5) = true)
    {f6 : Addr} {od6 an6 : Option Addr} {sl6 : Array (Option Value)} {oc6 kV6 dc6 pm6 cd6 ct6 : Value}
    (a6 : PySem.W.nsIn K mainGlobals "_law_drawn" = some (some (.ref f6))) (l6 : K.lookup f6 = some ⟨oc6, od6, .func (PySem.W.fnOf "_law_drawn" "_law_drawn" (defArgs s__law_drawn) (defBody s__law_drawn) (defScope s__law_drawn) .none kV6 dc6 pm6 an6 cd6 ct6), sl6⟩) (c6 : PySem.W.codeIn K cd6 "_law_drawn" = true) (k6 : PySem.W.keepIn K (.ref f6) = true)
    {f7 : Addr} {od7 an7 : Option Addr} {sl7 : Array (Option Value)} {oc7 kV7 dc7 pm7 cd7 ct7 : Value}
    (a7 : PySem.W.nsIn K mainGlobals "_law_signs" = some (some (.ref f7))) (l7 : K.lookup f7 = some ⟨oc7, od7, .func (PySem.W.fnOf "_law_signs" "_law_signs" (defArgs s__law_signs) (defBody s__law_signs) (defScope s__law_signs) .none kV7 dc7 pm7 an7 cd7 ct7), sl7⟩) (c7 : PySem.W.codeIn K cd7 "_law_signs" = true) (k7 : PySem.W.keepIn K (.ref f7) = true)
    {f8 : Addr} {od8 an8 : Option Addr} {sl8 : Array (Option Value)} {oc8 kV8 dc8 pm8 cd8 ct8 : Value}
    (a8 : PySem.W.nsIn K mainGlobals "_law_code" = some (some (.ref f8))) (l8 : K.lookup f8 = some ⟨oc8, od8, .func (PySem.W.fnOf "_law_code" "_law_code" (defArgs s__law_code) (defBody s__law_code) (defScope s__law_code) .none kV8 dc8 pm8 an8 cd8 ct8), sl8⟩) (c8 : PySem.W.codeIn K cd8 "_law_code" = true) (k8 : PySem.W.keepIn K (.ref f8) = true)
    {f9 : Addr} {od9 an9 : Option Addr} {sl9 : Array (Option Value)} {oc9 kV9 dc9 pm9 cd9 ct9 : Value}
    (a9 : PySem.W.nsIn K mainGlobals "_law_text" = some (some (.ref f9))) (l9 : K.lookup f9 = some ⟨oc9, od9, .func (PySem.W.fnOf "_law_text" "_law_text" (defArgs s__law_text) (defBody s__law_text) (defScope s__law_text) .none kV9 dc9 pm9 an9 cd9 ct9), sl9⟩) (c9 : PySem.W.codeIn K cd9 "_law_text" = true) (k9 : PySem.W.keepIn K (.ref f9) = true)
    {f10 : Addr} {od10 an10 : Option Addr} {sl10 : Array (Option Value)} {oc10 kV10 dc10 pm10 cd10 ct10 : Value}
    (a10 : PySem.W.nsIn K mainGlobals "_law_number" = some (some (.ref f10))) (l10 : K.lookup f10 = some ⟨oc10, od10, .func (PySem.W.fnOf "_law_number" "_law_number" (defArgs s__law_number) (defBody s__law_number) (defScope s__law_number) .none kV10 dc10 pm10 an10 cd10 ct10), sl10⟩) (c10 : PySem.W.codeIn K cd10 "_law_number" = true) (k10 : PySem.W.keepIn K (.ref f10) = true)
    {f11 : Addr} {od11 an11 : Option Addr} {sl11 : Array (Option Value)} {oc11 kV11 dc11 pm11 cd11 ct11 : Value}
    (a11 : PySem.W.nsIn K mainGlobals "_law_value" = some (some (.ref f11))) (l11 : K.lookup f11 = some ⟨oc11, od11, .func (PySem.W.fnOf "_law_value" "_law_value" (defArgs s__law_value) (defBody s__law_value) (defScope s__law_value) .none kV11 dc11 pm11 an11 cd11 ct11), sl11⟩) (c11 : PySem.W.codeIn K cd11 "_law_value" = true) (k11 : PySem.W.keepIn K (.ref f11) = true)
    {f12 : Addr} {od12 an12 : Option Addr} {sl12 : Array (Option Value)} {oc12 kV12 dc12 pm12 cd12 ct12 : Value}
    (a12 : PySem.W.nsIn K mainGlobals "_law_bent" = some (some (.ref f12))) (l12 : K.lookup f12 = some ⟨oc12, od12, .func (PySem.W.fnOf "_law_bent" "_law_bent" (defArgs s__law_bent) (defBody s__law_bent) (defScope s__law_bent) .none kV12 dc12 pm12 an12 cd12 ct12), sl12⟩) (c12 : PySem.W.codeIn K cd12 "_law_bent" = true) (k12 : PySem.W.keepIn K (.ref f12) = true)
    {f13 : Addr} {od13 an13 : Option Addr} {sl13 : Array (Option Value)} {oc13 kV13 dc13 pm13 cd13 ct13 : Value}
    (a13 : PySem.W.nsIn K mainGlobals "_law_told" = some (some (.ref f13))) (l13 : K.lookup f13 = some ⟨oc13, od13, .func (PySem.W.fnOf "_law_told" "_law_told" (defArgs s__law_told) (defBody s__law_told) (defScope s__law_told) .none kV13 dc13 pm13 an13 cd13 ct13), sl13⟩) (c13 : PySem.W.codeIn K cd13 "_law_told" = true) (k13 : PySem.W.keepIn K (.ref f13) = true)
    {f14 : Addr} {od14 an14 : Option Addr} {sl14 : Array (Option Value)} {oc14 kV14 dc14 pm14 cd14 ct14 : Value}
    (a14 : PySem.W.nsIn K mainGlobals "law" = some (some (.ref f14))) (l14 : K.lookup f14 = some ⟨oc14, od14, .func (PySem.W.fnOf "law" "law" (defArgs s_law) (defBody s_law) (defScope s_law) .none kV14 dc14 pm14 an14 cd14 ct14), sl14⟩) (c14 : PySem.W.codeIn K cd14 "law" = true) (k14 : PySem.W.keepIn K (.ref f14) = true)
    (z0 : PySem.W.nsIn K mainGlobals "abs" = some none)
    (z1 : PySem.W.nsIn K mainGlobals "bool" = some none)
    (z2 : PySem.W.nsIn K mainGlobals "int" = some none)
    (z3 : PySem.W.nsIn K mainGlobals "isinstance" = some none)
    (z4 : PySem.W.nsIn K mainGlobals "len" = some none)
    (z5 : PySem.W.nsIn K mainGlobals "max" = some none)
    (z6 : PySem.W.nsIn K mainGlobals "range" = some none)
    (z7 : PySem.W.nsIn K mainGlobals "str" = some none)
    (z8 : PySem.W.nsIn K mainGlobals "tuple" = some none)
    (z9 : PySem.W.nsIn K mainGlobals "type" = some none)
    {t0 : Tok} (q0 : PySem.W.nsIn K mainGlobals "COUNT_SIGNS" = some (some (.str "@ABCDEFGHIJKLMNOPQRSTUVWXYZ[\\]^_`" t0)))
    {t1 : Tok} (q1 : PySem.W.nsIn K mainGlobals "MOST_SIGNS" = some (some (.int 200 t1)))
    {t2 : Tok} (q2 : PySem.W.nsIn K mainGlobals "NINES_LESS" = some (some (.str "9876543210" t2)))
    {x_InvalidValue : Addr} (xa_InvalidValue : PySem.W.nsIn K mainGlobals "InvalidValue" = some (some (.ref x_InvalidValue))) (xe_InvalidValue : PySem.W.excIn K x_InvalidValue [.type "ValueError", .type "Exception", .type "BaseException", .type "object"] "ValueError.__new__" = true) (xk_InvalidValue : PySem.W.keepIn K (.ref x_InvalidValue) = true) (xs_InvalidValue : PySem.W.subIn K (.ref x_InvalidValue) (.type "BaseException") = some true) (xt_InvalidValue : PySem.W.typeIn K (.ref x_InvalidValue) = some (.type "type")) (xy_InvalidValue : PySem.W.subIn K (.ref x_InvalidValue) (.type "BaseException") = some true) (xi_InvalidValue : PySem.W.isClsIn K x_InvalidValue = true) (xz_InvalidValue : PySem.W.typeIn K (.ref x_InvalidValue) = some (.type "type"))
    {x_StoreError : Addr} (xa_StoreError : PySem.W.nsIn K mainGlobals "StoreError" = some (some (.ref x_StoreError))) (xy_StoreError : PySem.W.subIn K (.ref x_StoreError) (.type "BaseException") = some true) (xi_StoreError : PySem.W.isClsIn K x_StoreError = true) (xz_StoreError : PySem.W.typeIn K (.ref x_StoreError) = some (.type "type"))
    (xp_InvalidValue_InvalidValue : PySem.W.subIn K (.ref x_InvalidValue) (.ref x_InvalidValue) = some true)
    (xp_InvalidValue_StoreError : PySem.W.subIn K (.ref x_InvalidValue) (.ref x_StoreError) = some true) : Fx K mg :=
  {a_is_text := f0, fd_is_text := _, F_is_text := fun_mk (st := s_is_text) l0 c0 k0, g_is_text := PySem.W.mg_of X G a0, b_is_text := (fun_mk (st := s_is_text) l0 c0 k0).binds (ps := ["value"]) fun _ _ _ _ _ _ us hl => match us, hl with | [_], _ => rfl,
    a_is_value := f1, fd_is_value := _, F_is_value := fun_mk (st := s_is_value) l1 c1 k1, g_is_value := PySem.W.mg_of X G a1, b_is_value := (fun_mk (st := s_is_value) l1 c1 k1).binds (ps := ["value"]) fun _ _ _ _ _ _ us hl => match us, hl with | [_], _ => rfl,
    a_value_code := f2, fd_value_code := _, F_value_code := fun_mk (st := s_value_code) l2 c2 k2, g_value_code := PySem.W.mg_of X G a2, b_value_code := (fun_mk (st := s_value_code) l2 c2 k2).binds (ps := ["value"]) fun _ _ _ _ _ _ us hl => match us, hl with | [_], _ => rfl,
    a_integer_code := f3, fd_integer_code := _, F_integer_code := fun_mk (st := s_integer_code) l3 c3 k3, g_integer_code := PySem.W.mg_of X G a3, b_integer_code := (fun_mk (st := s_integer_code) l3 c3 k3).binds (ps := ["value"]) fun _ _ _ _ _ _ us hl => match us, hl with | [_], _ => rfl,
    a_text_code := f4, fd_text_code := _, F_text_code := fun_mk (st := s_text_code) l4 c4 k4, g_text_code := PySem.W.mg_of X G a4, b_text_code := (fun_mk (st := s_text_code) l4 c4 k4).binds (ps := ["text"]) fun _ _ _ _ _ _ us hl => match us, hl with | [_], _ => rfl,
    a__law_jar := f5, fd__law_jar := _, F__law_jar := fun_mk (st := s__law_jar) l5 c5 k5, g__law_jar := PySem.W.mg_of X G a5, b__law_jar := (fun_mk (st := s__law_jar) l5 c5 k5).binds (ps := ["_law_cell"]) fun _ _ _ _ _ _ us hl => match us, hl with | [_], _ => rfl,
    a__law_drawn := f6, fd__law_drawn := _, F__law_drawn := fun_mk (st := s__law_drawn) l6 c6 k6, g__law_drawn := PySem.W.mg_of X G a6, b__law_drawn := (fun_mk (st := s__law_drawn) l6 c6 k6).binds (ps := ["_law_jar_here", "_law_many"]) fun _ _ _ _ _ _ us hl => match us, hl with | [_, _], _ => rfl,
    a__law_signs := f7, fd__law_signs := _, F__law_signs := fun_mk (st := s__law_signs) l7 c7 k7, g__law_signs := PySem.W.mg_of X G a7, b__law_signs := (fun_mk (st := s__law_signs) l7 c7 k7).binds (ps := []) fun _ _ _ _ _ _ us hl => match us, hl with | [], _ => rfl,
    a__law_code := f8, fd__law_code := _, F__law_code := fun_mk (st := s__law_code) l8 c8 k8, g__law_code := PySem.W.mg_of X G a8, b__law_code := (fun_mk (st := s__law_code) l8 c8 k8).binds (ps := ["_law_value_here"]) fun _ _ _ _ _ _ us hl => match us, hl with | [_], _ => rfl,
    a__law_text := f9, fd__law_text := _, F__law_text := fun_mk (st := s__law_text) l9 c9 k9, g__law_text := PySem.W.mg_of X G a9, b__law_text := (fun_mk (st := s__law_text) l9 c9 k9).binds (ps := ["_law_jar_here"]) fun _ _ _ _ _ _ us hl => match us, hl with | [_], _ => rfl,
    a__law_number := f10, fd__law_number := _, F__law_number := fun_mk (st := s__law_number) l10 c10 k10, g__law_number := PySem.W.mg_of X G a10, b__law_number := (fun_mk (st := s__law_number) l10 c10 k10).binds (ps := ["_law_jar_here"]) fun _ _ _ _ _ _ us hl => match us, hl with | [_], _ => rfl,
    a__law_value := f11, fd__law_value := _, F__law_value := fun_mk (st := s__law_value) l11 c11 k11, g__law_value := PySem.W.mg_of X G a11, b__law_value := (fun_mk (st := s__law_value) l11 c11 k11).binds (ps := ["_law_jar_here"]) fun _ _ _ _ _ _ us hl => match us, hl with | [_], _ => rfl,
    a__law_bent := f12, fd__law_bent := _, F__law_bent := fun_mk (st := s__law_bent) l12 c12 k12, g__law_bent := PySem.W.mg_of X G a12, b__law_bent := (fun_mk (st := s__law_bent) l12 c12 k12).binds (ps := ["_law_jar_here"]) fun _ _ _ _ _ _ us hl => match us, hl with | [_], _ => rfl,
    a__law_told := f13, fd__law_told := _, F__law_told := fun_mk (st := s__law_told) l13 c13 k13, g__law_told := PySem.W.mg_of X G a13, b__law_told := (fun_mk (st := s__law_told) l13 c13 k13).binds (ps := ["_law_value_here"]) fun _ _ _ _ _ _ us hl => match us, hl with | [_], _ => rfl,
    a_law := f14, fd_law := _, F_law := fun_mk (st := s_law) l14 c14 k14, g_law := PySem.W.mg_of X G a14, b_law := (fun_mk (st := s_law) l14 c14 k14).binds (ps := ["_law_script"]) fun _ _ _ _ _ _ us hl => match us, hl with | [_], _ => rfl,
    kb_value_code_0 := kbm_kb_value_code_0 (fun_mk (st := s_value_code) l2 c2 k2),
    m_abs := PySem.W.mg_none_of X G z0,
    m_bool := PySem.W.mg_none_of X G z1,
    m_int := PySem.W.mg_none_of X G z2,
    m_isinstance := PySem.W.mg_none_of X G z3,
    m_len := PySem.W.mg_none_of X G z4,
    m_max := PySem.W.mg_none_of X G z5,
    m_range := PySem.W.mg_none_of X G z6,
    m_str := PySem.W.mg_none_of X G z7,
    m_tuple := PySem.W.mg_none_of X G z8,
    m_type := PySem.W.mg_none_of X G z9,
    c_COUNT_SIGNS := ⟨t0, PySem.W.mg_of X G q0⟩,
    c_MOST_SIGNS := ⟨t1, PySem.W.mg_of X G q1⟩,
    c_NINES_LESS := ⟨t2, PySem.W.mg_of X G q2⟩,
    x_InvalidValue := x_InvalidValue, q_InvalidValue := PySem.W.mg_of X G xa_InvalidValue,
    e_InvalidValue := xe_InvalidValue, k_InvalidValue := xk_InvalidValue, s_InvalidValue := xs_InvalidValue, t_InvalidValue := xt_InvalidValue,
    x_StoreError := x_StoreError, q_StoreError := PySem.W.mg_of X G xa_StoreError,
    m_InvalidValue_InvalidValue := exm_pair xy_InvalidValue xi_InvalidValue xz_InvalidValue xp_InvalidValue_InvalidValue,
    m_InvalidValue_StoreError := exm_pair xy_StoreError xi_StoreError xz_StoreError xp_InvalidValue_StoreError }
theorem all_mk {l : PySem.W.OpenLaw} {w : World} {K : PySem.W.Frag} {h : Heap} {mg : Str → Option Value} {fa : Addr} (X : K.In h) (G : h.Ns mainGlobals mg) (hfa : mg "law" = some (.ref fa))
    {f0 : Addr} {od0 an0 : Option Addr} {sl0 : Array (Option Value)} {oc0 kV0 dc0 pm0 cd0 ct0 : Value}
    (a0 : PySem.W.nsIn K mainGlobals "is_text" = some (some (.ref f0))) (l0 : K.lookup f0 = some ⟨oc0, od0, .func (PySem.W.fnOf "is_text" "is_text" (defArgs s_is_text) (defBody s_is_text) (defScope s_is_text) .none kV0 dc0 pm0 an0 cd0 ct0), sl0⟩) (c0 : PySem.W.codeIn K cd0 "is_text" = true) (k0 : PySem.W.keepIn K (.ref f0) = true)
    {f1 : Addr} {od1 an1 : Option Addr} {sl1 : Array (Option Value)} {oc1 kV1 dc1 pm1 cd1 ct1 : Value}
    (a1 : PySem.W.nsIn K mainGlobals "is_value" = some (some (.ref f1))) (l1 : K.lookup f1 = some ⟨oc1, od1, .func (PySem.W.fnOf "is_value" "is_value" (defArgs s_is_value) (defBody s_is_value) (defScope s_is_value) .none kV1 dc1 pm1 an1 cd1 ct1), sl1⟩) (c1 : PySem.W.codeIn K cd1 "is_value" = true) (k1 : PySem.W.keepIn K (.ref f1) = true)
    {f2 : Addr} {od2 an2 : Option Addr} {sl2 : Array (Option Value)} {oc2 kV2 dc2 pm2 cd2 ct2 : Value}
    (a2 : PySem.W.nsIn K mainGlobals "value_code" = some (some (.ref f2))) (l2 : K.lookup f2 = some ⟨oc2, od2, .func (PySem.W.fnOf "value_code" "value_code" (defArgs s_value_code) (defBody s_value_code) (defScope s_value_code) .none kV2 dc2 pm2 an2 cd2 ct2), sl2⟩) (c2 : PySem.W.codeIn K cd2 "value_code" = true) (k2 : PySem.W.keepIn K (.ref f2) = true)
    {f3 : Addr} {od3 an3 : Option Addr} {sl3 : Array (Option Value)} {oc3 kV3 dc3 pm3 cd3 ct3 : Value}
    (a3 : PySem.W.nsIn K mainGlobals "integer_code" = some (some (.ref f3))) (l3 : K.lookup f3 = some ⟨oc3, od3, .func (PySem.W.fnOf "integer_code" "integer_code" (defArgs s_integer_code) (defBody s_integer_code) (defScope s_integer_code) .none kV3 dc3 pm3 an3 cd3 ct3), sl3⟩) (c3 : PySem.W.codeIn K cd3 "integer_code" = true) (k3 : PySem.W.keepIn K (.ref f3) = true)
    {f4 : Addr} {od4 an4 : Option Addr} {sl4 : Array (Option Value)} {oc4 kV4 dc4 pm4 cd4 ct4 : Value}
    (a4 : PySem.W.nsIn K mainGlobals "text_code" = some (some (.ref f4))) (l4 : K.lookup f4 = some ⟨oc4, od4, .func (PySem.W.fnOf "text_code" "text_code" (defArgs s_text_code) (defBody s_text_code) (defScope s_text_code) .none kV4 dc4 pm4 an4 cd4 ct4), sl4⟩) (c4 : PySem.W.codeIn K cd4 "text_code" = true) (k4 : PySem.W.keepIn K (.ref f4) = true)
    {f5 : Addr} {od5 an5 : Option Addr} {sl5 : Array (Option Value)} {oc5 kV5 dc5 pm5 cd5 ct5 : Value}
    (a5 : PySem.W.nsIn K mainGlobals "_law_jar" = some (some (.ref f5))) (l5 : K.lookup f5 = some ⟨oc5, od5, .func (PySem.W.fnOf "_law_jar" "_law_jar" (defArgs s__law_jar) (defBody s__law_jar) (defScope s__law_jar) .none kV5 dc5 pm5 an5 cd5 ct5), sl5⟩) (c5 : PySem.W.codeIn K cd5 "_law_jar" = true) (k5 : PySem.W.keepIn K (.ref f5) = true)
    {f6 : Addr} {od6 an6 : Option Addr} {sl6 : Array (Option Value)} {oc6 kV6 dc6 pm6 cd6 ct6 : Value}
    (a6 : PySem.W.nsIn K mainGlobals "_law_drawn" = some (some (.ref f6))) (l6 : K.lookup f6 = some ⟨oc6, od6, .func (PySem.W.fnOf "_law_drawn" "_law_drawn" (defArgs s__law_drawn) (defBody s__law_drawn) (defScope s__law_drawn) .none kV6 dc6 pm6 an6 cd6 ct6), sl6⟩) (c6 : PySem.W.codeIn K cd6 "_law_drawn" = true) (k6 : PySem.W.keepIn K (.ref f6) = true)
    {f7 : Addr} {od7 an7 : Option Addr} {sl7 : Array (Option Value)} {oc7 kV7 dc7 pm7 cd7 ct7 : Value}
    (a7 : PySem.W.nsIn K mainGlobals "_law_signs" = some (some (.ref f7))) (l7 : K.lookup f7 = some ⟨oc7, od7, .func (PySem.W.fnOf "_law_signs" "_law_signs" (defArgs s__law_signs) (defBody s__law_signs) (defScope s__law_signs) .none kV7 dc7 pm7 an7 cd7 ct7), sl7⟩) (c7 : PySem.W.codeIn K cd7 "_law_signs" = true) (k7 : PySem.W.keepIn K (.ref f7) = true)
    {f8 : Addr} {od8 an8 : Option Addr} {sl8 : Array (Option Value)} {oc8 kV8 dc8 pm8 cd8 ct8 : Value}
    (a8 : PySem.W.nsIn K mainGlobals "_law_code" = some (some (.ref f8))) (l8 : K.lookup f8 = some ⟨oc8, od8, .func (PySem.W.fnOf "_law_code" "_law_code" (defArgs s__law_code) (defBody s__law_code) (defScope s__law_code) .none kV8 dc8 pm8 an8 cd8 ct8), sl8⟩) (c8 : PySem.W.codeIn K cd8 "_law_code" = true) (k8 : PySem.W.keepIn K (.ref f8) = true)
    {f9 : Addr} {od9 an9 : Option Addr} {sl9 : Array (Option Value)} {oc9 kV9 dc9 pm9 cd9 ct9 : Value}
    (a9 : PySem.W.nsIn K mainGlobals "_law_text" = some (some (.ref f9))) (l9 : K.lookup f9 = some ⟨oc9, od9, .func (PySem.W.fnOf "_law_text" "_law_text" (defArgs s__law_text) (defBody s__law_text) (defScope s__law_text) .none kV9 dc9 pm9 an9 cd9 ct9), sl9⟩) (c9 : PySem.W.codeIn K cd9 "_law_text" = true) (k9 : PySem.W.keepIn K (.ref f9) = true)
    {f10 : Addr} {od10 an10 : Option Addr} {sl10 : Array (Option Value)} {oc10 kV10 dc10 pm10 cd10 ct10 : Value}
    (a10 : PySem.W.nsIn K mainGlobals "_law_number" = some (some (.ref f10))) (l10 : K.lookup f10 = some ⟨oc10, od10, .func (PySem.W.fnOf "_law_number" "_law_number" (defArgs s__law_number) (defBody s__law_number) (defScope s__law_number) .none kV10 dc10 pm10 an10 cd10 ct10), sl10⟩) (c10 : PySem.W.codeIn K cd10 "_law_number" = true) (k10 : PySem.W.keepIn K (.ref f10) = true)
    {f11 : Addr} {od11 an11 : Option Addr} {sl11 : Array (Option Value)} {oc11 kV11 dc11 pm11 cd11 ct11 : Value}
    (a11 : PySem.W.nsIn K mainGlobals "_law_value" = some (some (.ref f11))) (l11 : K.lookup f11 = some ⟨oc11, od11, .func (PySem.W.fnOf "_law_value" "_law_value" (defArgs s__law_value) (defBody s__law_value) (defScope s__law_value) .none kV11 dc11 pm11 an11 cd11 ct11), sl11⟩) (c11 : PySem.W.codeIn K cd11 "_law_value" = true) (k11 : PySem.W.keepIn K (.ref f11) = true)
    {f12 : Addr} {od12 an12 : Option Addr} {sl12 : Array (Option Value)} {oc12 kV12 dc12 pm12 cd12 ct12 : Value}
    (a12 : PySem.W.nsIn K mainGlobals "_law_bent" = some (some (.ref f12))) (l12 : K.lookup f12 = some ⟨oc12, od12, .func (PySem.W.fnOf "_law_bent" "_law_bent" (defArgs s__law_bent) (defBody s__law_bent) (defScope s__law_bent) .none kV12 dc12 pm12 an12 cd12 ct12), sl12⟩) (c12 : PySem.W.codeIn K cd12 "_law_bent" = true) (k12 : PySem.W.keepIn K (.ref f12) = true)
    {f13 : Addr} {od13 an13 : Option Addr} {sl13 : Array (Option Value)} {oc13 kV13 dc13 pm13 cd13 ct13 : Value}
    (a13 : PySem.W.nsIn K mainGlobals "_law_told" = some (some (.ref f13))) (l13 : K.lookup f13 = some ⟨oc13, od13, .func (PySem.W.fnOf "_law_told" "_law_told" (defArgs s__law_told) (defBody s__law_told) (defScope s__law_told) .none kV13 dc13 pm13 an13 cd13 ct13), sl13⟩) (c13 : PySem.W.codeIn K cd13 "_law_told" = true) (k13 : PySem.W.keepIn K (.ref f13) = true)
    {f14 : Addr} {od14 an14 : Option Addr} {sl14 : Array (Option Value)} {oc14 kV14 dc14 pm14 cd14 ct14 : Value}
    (a14 : PySem.W.nsIn K mainGlobals "law" = some (some (.ref f14))) (l14 : K.lookup f14 = some ⟨oc14, od14, .func (PySem.W.fnOf "law" "law" (defArgs s_law) (defBody s_law) (defScope s_law) .none kV14 dc14 pm14 an14 cd14 ct14), sl14⟩) (c14 : PySem.W.codeIn K cd14 "law" = true) (k14 : PySem.W.keepIn K (.ref f14) = true)
    (z0 : PySem.W.nsIn K mainGlobals "abs" = some none)
    (z1 : PySem.W.nsIn K mainGlobals "bool" = some none)
    (z2 : PySem.W.nsIn K mainGlobals "int" = some none)
    (z3 : PySem.W.nsIn K mainGlobals "isinstance" = some none)
    (z4 : PySem.W.nsIn K mainGlobals "len" = some none)
    (z5 : PySem.W.nsIn K mainGlobals "max" = some none)
    (z6 : PySem.W.nsIn K mainGlobals "range" = some none)
    (z7 : PySem.W.nsIn K mainGlobals "str" = some none)
    (z8 : PySem.W.nsIn K mainGlobals "tuple" = some none)
    (z9 : PySem.W.nsIn K mainGlobals "type" = some none)
    {t0 : Tok} (q0 : PySem.W.nsIn K mainGlobals "COUNT_SIGNS" = some (some (.str "@ABCDEFGHIJKLMNOPQRSTUVWXYZ[\\]^_`" t0)))
    {t1 : Tok} (q1 : PySem.W.nsIn K mainGlobals "MOST_SIGNS" = some (some (.int 200 t1)))
    {t2 : Tok} (q2 : PySem.W.nsIn K mainGlobals "NINES_LESS" = some (some (.str "9876543210" t2)))
    {x_InvalidValue : Addr} (xa_InvalidValue : PySem.W.nsIn K mainGlobals "InvalidValue" = some (some (.ref x_InvalidValue))) (xe_InvalidValue : PySem.W.excIn K x_InvalidValue [.type "ValueError", .type "Exception", .type "BaseException", .type "object"] "ValueError.__new__" = true) (xk_InvalidValue : PySem.W.keepIn K (.ref x_InvalidValue) = true) (xs_InvalidValue : PySem.W.subIn K (.ref x_InvalidValue) (.type "BaseException") = some true) (xt_InvalidValue : PySem.W.typeIn K (.ref x_InvalidValue) = some (.type "type")) (xy_InvalidValue : PySem.W.subIn K (.ref x_InvalidValue) (.type "BaseException") = some true) (xi_InvalidValue : PySem.W.isClsIn K x_InvalidValue = true) (xz_InvalidValue : PySem.W.typeIn K (.ref x_InvalidValue) = some (.type "type"))
    {x_StoreError : Addr} (xa_StoreError : PySem.W.nsIn K mainGlobals "StoreError" = some (some (.ref x_StoreError))) (xy_StoreError : PySem.W.subIn K (.ref x_StoreError) (.type "BaseException") = some true) (xi_StoreError : PySem.W.isClsIn K x_StoreError = true) (xz_StoreError : PySem.W.typeIn K (.ref x_StoreError) = some (.type "type"))
    (xp_InvalidValue_InvalidValue : PySem.W.subIn K (.ref x_InvalidValue) (.ref x_InvalidValue) = some true)
    (xp_InvalidValue_StoreError : PySem.W.subIn K (.ref x_InvalidValue) (.ref x_StoreError) = some true) :
    ∃ fd : FuncData, (∀ (s : Shared) (v : Value), BindsTo s fd ⟨[v], []⟩ [("_law_script", v)]) ∧ ∀ base : Heap, K.In base → base.Ns mainGlobals mg → FnOk l.prog w K mg base CX0 5 fa fd ["_law_script"] (spLaw K) := by
  have e := hfa.symm.trans (PySem.W.mg_of X G a14)
  cases e
  have Y := fx_mk X G a0 l0 c0 k0 a1 l1 c1 k1 a2 l2 c2 k2 a3 l3 c3 k3 a4 l4 c4 k4 a5 l5 c5 k5 a6 l6 c6 k6 a7 l7 c7 k7 a8 l8 c8 k8 a9 l9 c9 k9 a10 l10 c10 k10 a11 l11 c11 k11 a12 l12 c12 k12 a13 l13 c13 k13 a14 l14 c14 k14 z0 z1 z2 z3 z4 z5 z6 z7 z8 z9 q0 q1 q2 xa_InvalidValue xe_InvalidValue xk_InvalidValue xs_InvalidValue xt_InvalidValue xy_InvalidValue xi_InvalidValue xz_InvalidValue xa_StoreError xy_StoreError xi_StoreError xz_StoreError xp_InvalidValue_InvalidValue xp_InvalidValue_StoreError
  exact ⟨PySem.W.fnOf "law" "law" (defArgs s_law) (defBody s_law) (defScope s_law) .none kV14 dc14 pm14 an14 cd14 ct14, fun s v => .of_eq rfl, fun base _ _ => ok_law (fx_mk X G a0 l0 c0 k0 a1 l1 c1 k1 a2 l2 c2 k2 a3 l3 c3 k3 a4 l4 c4 k4 a5 l5 c5 k5 a6 l6 c6 k6 a7 l7 c7 k7 a8 l8 c8 k8 a9 l9 c9 k9 a10 l10 c10 k10 a11 l11 c11 k11 a12 l12 c12 k12 a13 l13 c13 k13 a14 l14 c14 k14 z0 z1 z2 z3 z4 z5 z6 z7 z8 z9 q0 q1 q2 xa_InvalidValue xe_InvalidValue xk_InvalidValue xs_InvalidValue xt_InvalidValue xy_InvalidValue xi_InvalidValue xz_InvalidValue xa_StoreError xy_StoreError xi_StoreError xz_StoreError xp_InvalidValue_InvalidValue xp_InvalidValue_StoreError)⟩
end My
open PySem PySem.W PyProof.Rows
set_option maxHeartbeats 0 in
theorem PySem.Challenge.cw_heldpasts_k21_value_codes_holds : PySem.Challenge.rw_heldpasts_k21_value_codes.Holds := by
  w_on; o_law; k_head; (case hw => w_witness2)
  k_fill
  refine L2.walk_of (l := PySem.Challenge.rw_heldpasts_k21_value_codes) (n := 63) (k := 5) (x := "_law_script") (CX := fun _ => L2.CX0) (sp := fun w => My.spLaw _) rfl (by decide) rfl ⟨rfl, by decide, by decide⟩ (fun w h Y => PySem.W.kIn_of Y) ?F (fun _ _ a ns hl _ hS => ⟨a, ns, rfl, hS, hl, fun _ => rfl⟩) (fun _ _ _ _ _ h => h)
  case F =>
    intro w mg fa h KX G hmg
    refine' My.all_mk KX G hmg ?a0 ?l0 ?c0 ?k0 ?a1 ?l1 ?c1 ?k1 ?a2 ?l2 ?c2 ?k2 ?a3 ?l3 ?c3 ?k3 ?a4 ?l4 ?c4 ?k4 ?a5 ?l5 ?c5 ?k5 ?a6 ?l6 ?c6 ?k6 ?a7 ?l7 ?c7 ?k7 ?a8 ?l8 ?c8 ?k8 ?a9 ?l9 ?c9 ?k9 ?a10 ?l10 ?c10 ?k10 ?a11 ?l11 ?c11 ?k11 ?a12 ?l12 ?c12 ?k12 ?a13 ?l13 ?c13 ?k13 ?a14 ?l14 ?c14 ?k14 ?z0 ?z1 ?z2 ?z3 ?z4 ?z5 ?z6 ?z7 ?z8 ?z9 ?q0 ?q1 ?q2 ?xa_InvalidValue ?xe_InvalidValue ?xk_InvalidValue ?xs_InvalidValue ?xt_InvalidValue ?xy_InvalidValue ?xi_InvalidValue ?xz_InvalidValue ?xa_StoreError ?xy_StoreError ?xi_StoreError ?xz_StoreError ?xp_InvalidValue_InvalidValue ?xp_InvalidValue_StoreError
    (case a0 => k_is); (case l0 => k_is); (case c0 => k_is); (case k0 => k_is); (case a1 => k_is); (case l1 => k_is); (case c1 => k_is); (case k1 => k_is); (case a2 => k_is); (case l2 => k_is); (case c2 => k_is); (case k2 => k_is); (case a3 => k_is); (case l3 => k_is); (case c3 => k_is); (case k3 => k_is); (case a4 => k_is); (case l4 => k_is); (case c4 => k_is); (case k4 => k_is); (case a5 => k_is); (case l5 => k_is); (case c5 => k_is); (case k5 => k_is); (case a6 => k_is); (case l6 => k_is); (case c6 => k_is); (case k6 => k_is); (case a7 => k_is); (case l7 => k_is); (case c7 => k_is); (case k7 => k_is); (case a8 => k_is); (case l8 => k_is); (case c8 => k_is); (case k8 => k_is); (case a9 => k_is); (case l9 => k_is); (case c9 => k_is); (case k9 => k_is); (case a10 => k_is); (case l10 => k_is); (case c10 => k_is); (case k10 => k_is); (case a11 => k_is); (case l11 => k_is); (case c11 => k_is); (case k11 => k_is); (case a12 => k_is); (case l12 => k_is); (case c12 => k_is); (case k12 => k_is); (case a13 => k_is); (case l13 => k_is); (case c13 => k_is); (case k13 => k_is); (case a14 => k_is); (case l14 => k_is); (case c14 => k_is); (case k14 => k_is); (case z0 => k_is); (case z1 => k_is); (case z2 => k_is); (case z3 => k_is); (case z4 => k_is); (case z5 => k_is); (case z6 => k_is); (case z7 => k_is); (case z8 => k_is); (case z9 => k_is); (case q0 => k_is); (case q1 => k_is); (case q2 => k_is); (case xa_InvalidValue => k_is); (case xe_InvalidValue => first | k_exc | k_is); (case xk_InvalidValue => k_is); (case xs_InvalidValue => k_is); (case xt_InvalidValue => k_is); (case xy_InvalidValue => k_is); (case xi_InvalidValue => k_is); (case xz_InvalidValue => k_is); (case xa_StoreError => k_is); (case xy_StoreError => k_is); (case xi_StoreError => k_is); (case xz_StoreError => k_is); (case xp_InvalidValue_InvalidValue => first | rfl | k_is); (case xp_InvalidValue_StoreError => first | rfl | k_is)

