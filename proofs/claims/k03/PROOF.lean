import PyProof.Rows.All
import Wide.All
import OpenK.AllK
import Wide.FinOn
import HandS.ForMost
import HandS.Wide
import HandS.More
import HandS.StrMore
import HandS.FStr
import HandS.IsInst
import HandS.TupAny
import HandS.Style
import HandS.Exc
import HandS.TryOnly
import HandS.ExcOwn
import HandS.WordsExc
import HandS.Evl
import HandS.Codes
import HandS.SortKw
import KE.DatumOrd
import PySem.Challenge.RW_heldpasts_k03_told_logs
set_option Elab.async false
set_option linter.all false
set_option maxRecDepth 100000
set_option maxHeartbeats 4000000
/-! ### my rules: one name an operator, whatever the kinds -/
namespace My
open PySem PySem.Spec PyProof.Rows L2
section
variable {X : Cx}
theorem hu_64 {A : Around} {k : Nat} (hr : Room k A) : A.units + 64 < cLine := hr.units
/-! #### + -/
def rAddS : R2 := fun x y H Q => ∃ i j, x = .str i ∧ y = .str j ∧ i.length + j.length ≤ sizeLine ∧ Q (.str (i ++ j)) H
def rADD (K : PySem.W.Frag) : R2 := fun x y H Q => rI0 (fun i j => .int (i + j)) x y H Q ∨ rAddS x y H Q ∨ rCat x y H Q ∨ rCatA K x y H Q
theorem op_ADD : OpR X (binaryOp .Add) (rADD X.K) := op_add.or (OpR.or (r := rAddS) op_add_str (op_cat.or op_catA))
def rSUB : R2 := rI0 fun i j => .int (i - j)
theorem op_SUB : OpR X (binaryOp .Sub) rSUB := op_sub
/-! #### * -/
theorem cps_repl (l : Array Nat) (k : Nat) : (List.replicate k l).foldl (· ++ ·) #[] = ((List.replicate k l.toList).flatten).toArray := by
  have h : ∀ (n : Nat) (acc : Array Nat), (List.replicate n l).foldl (· ++ ·) acc = acc ++ ((List.replicate n l.toList).flatten).toArray := by
    intro n
    induction n with
    | zero => intro acc; simp
    | succ n ih =>
      intro acc
      rw [List.replicate_succ, List.foldl_cons, ih, List.replicate_succ, List.flatten_cons]
      apply Array.ext'
      simp
  rw [h]
  simp
/-- a text so many times -/
def repS (x : Str) (k : Int) : Str := ⟨((List.replicate k.toNat x.cps.toList).flatten).toArray⟩
def rMulS : R2 := fun x y H Q => ∃ z k, x = .str z ∧ y = .int k ∧ -(2 ^ 63) ≤ k ∧ k < 2 ^ 63 ∧ z.length * k.toNat ≤ sizeLine ∧ Q (.str (repS z k)) H
theorem op_mul_str : OpR X (binaryOp .Mult) rMulS := by
  intro pins s σ H x y v u Q I rx ry h
  obtain ⟨z, k, rfl, rfl, h1, h2, hz, q⟩ := h
  obtain ⟨t, rfl⟩ := rx
  obtain ⟨t', rfl⟩ := ry
  have hz' : z.length * k.toNat ≤ 2 ^ 24 := hz
  refine P.mul_str ?_ ?_ ?_ ?_
  · rw [decide_eq_false (by omega), decide_eq_false (by omega)]; rfl
  · intro h1 h3
    have hk : 0 < k := by omega
    have h4 : (z.length : Int) * k ≤ 2 ^ 24 := by
      have : ((z.length * k.toNat : Nat) : Int) ≤ 2 ^ 24 := by exact_mod_cast hz'
      rw [Int.natCast_mul, Int.toNat_of_nonneg (by omega)] at this
      exact this
    intro h5
    have h6 : (2 ^ 63 - 1) / k < (z.length : Int) := h5
    have h7 := (Int.ediv_lt_iff_lt_mul hk).mp h6
    omega
  · intro h1 h3
    exact decide_eq_false (Nat.not_lt.mpr hz)
  · by_cases h3 : k < 1
    · rw [if_pos h3]
      have e : repS z k = Str.empty := by
        unfold repS
        rw [show k.toNat = 0 by omega]
        rfl
      rw [e] at q
      exact ⟨by decide, ⟨.str Str.empty, H, I.tok _, ⟨_, rfl⟩, q⟩⟩
    · rw [if_neg h3]
      by_cases h4 : (k == 1 || z.length == 0) = true
      · rw [if_pos h4]
        have e : repS z k = z := by
          unfold repS
          rcases Bool.or_eq_true _ _ ▸ h4 with h5 | h5
          · rw [show k.toNat = 1 by have := of_decide_eq_true h5; omega]
            simp
          · have h6 : z.length = 0 := by simpa using h5
            have h7 : z.cps.toList = [] := by
              apply List.eq_nil_of_length_eq_zero
              rw [Array.length_toList]
              exact h6
            rw [h7]
            rcases z with ⟨c⟩
            have h8 : c = #[] := Array.ext' (by simpa using h7)
            subst h8
            simp
        rw [e] at q
        exact ⟨.str z, H, I, ⟨_, rfl⟩, q⟩
      · rw [if_neg h4]
        refine ⟨?_, ⟨.str (repS z k), H, I.tok _, ⟨s.toks, ?_⟩, q⟩⟩
        · show Str.length ⟨_⟩ ≤ sizeLine
          rw [cps_repl]
          show (List.toArray _).size ≤ sizeLine
          rw [List.size_toArray, List.length_flatten, List.map_replicate, List.sum_replicate_nat, Array.length_toList]
          show k.toNat * z.length ≤ sizeLine
          rw [Nat.mul_comm]
          exact hz
        · rw [cps_repl]
          rfl
def CMulA (i j : Int) : Prop := CMul i j ∨ CMulW i j
def rMulI : R2 := fun x y H Q => ∃ i j, x = .int i ∧ y = .int j ∧ CMulA i j ∧ Q (.int (i * j)) H
theorem op_mulA : OpR X (binaryOp .Mult) rMulI := opI fun _ _ _ _ _ _ _ hc q => mul_int q (hc.elim (fun h => h.ok) fun h => h.ok)
def rMUL (K : PySem.W.Frag) : R2 := fun x y H Q => rMulI x y H Q ∨ rMulS x y H Q ∨ rRep x y H Q
theorem op_MUL : OpR X (binaryOp .Mult) (rMUL X.K) := op_mulA.or (op_mul_str.or op_rep)
/-! #### //, percent, ** -/
def rMOD : R2 := rI (fun _ j => 0 < j) fun i j => .int (i % j)
theorem op_MOD : OpR X (binaryOp .Mod) rMOD := op_mod
def rFDIV : R2 := rI CDivW fun i j => .int (i / j)
theorem op_FDIV : OpR X (binaryOp .FloorDiv) rFDIV := op_fdivW
def rPOW : R2 := rI CPow fun i j => .int (i ^ j.toNat)
theorem op_POW : OpR X (binaryOp .Pow) rPOW := op_pow
def rNEG : V → Hp → VK → Prop := rU fun i => .int (-i)
theorem un_NEG : UnR X (unaryOp .USub) rNEG := un_neg
/-! #### comparisons -/
def rEQ (K : PySem.W.Frag) : R2 := fun x y H Q => rEq x y H Q ∨ rEqD K x y H Q
theorem op_EQ (hu : X.A.units + 64 < cLine) : OpR X (compareOp .Eq) (rEQ X.K) := op_eq.or (op_eqD hu)
def rNE (K : PySem.W.Frag) : R2 := fun x y H Q => rNe x y H Q ∨ rNeD K x y H Q
theorem op_NE (hu : X.A.units + 64 < cLine) : OpR X (compareOp .NotEq) (rNE X.K) := op_ne.or (op_neD hu)
def rCI (p : Int → Int → Bool) : R2 := rI0 fun i j => .bl (p i j)
def rCS (p : List Nat → List Nat → Bool) : R2 := fun x y H Q => ∃ i j, x = .str i ∧ y = .str j ∧ Q (.bl (p i.cps.toList j.cps.toList)) H
def rLT : R2 := fun x y H Q => rCI (fun i j => decide (i < j)) x y H Q ∨ rCS (fun i j => decide (i < j)) x y H Q
theorem op_LT : OpR X (compareOp .Lt) rLT := OpR.or (r := rCI _) (r' := rCS _) op_lt op_lt_str
def rLE : R2 := fun x y H Q => rCI (fun i j => decide (i ≤ j)) x y H Q ∨ rCS (fun i j => !decide (j < i)) x y H Q
theorem op_LE : OpR X (compareOp .LtE) rLE := OpR.or (r := rCI _) (r' := rCS _) op_le op_le_str
def rGT : R2 := fun x y H Q => rCI (fun i j => decide (j < i)) x y H Q ∨ rCS (fun i j => decide (j < i)) x y H Q
theorem op_GT : OpR X (compareOp .Gt) rGT := OpR.or (r := rCI _) (r' := rCS _) op_gt op_gt_str
def rGE : R2 := fun x y H Q => rCI (fun i j => decide (j ≤ i)) x y H Q ∨ rCS (fun i j => !decide (i < j)) x y H Q
theorem op_GE : OpR X (compareOp .GtE) rGE := OpR.or (r := rCI _) (r' := rCS _) op_ge op_ge_str
/-- is: None; types; a truth on the right -/
def rIsT (f : Bool → Bool) : R2 := fun x y H Q => ∃ b, y = .bl b ∧ Q (.bl (f (decide (x = .bl b)))) H
theorem op_is_true : OpR X (compareOp .Is) (rIsT id) := by
  intro pins s σ H x y v u Q I rx ry h
  obtain ⟨b, rfl, q⟩ := h
  cases (show u = Value.bool b from ry)
  by_cases e : x = .bl b
  · subst e
    cases (show v = Value.bool b from rx)
    exact wpAny_is_self rfl ⟨.bl true, H, I, rfl, by simpa using q⟩
  · have ne : v ≠ Value.bool b := by
      rintro rfl
      apply e
      cases x <;> first
        | (cases rx; done)
        | (cases rx; rfl)
        | (obtain ⟨t, z⟩ := rx; cases z)
    have hp : plainIs v (Value.bool b) = true := by
      cases x <;> first
        | (cases rx; rfl)
        | (obtain ⟨t, rfl⟩ := rx; rfl)
    exact wpAny_is_other hp ne ⟨.bl false, H, I, rfl, by simpa [e] using q⟩
theorem op_isnot_true : OpR X (compareOp .IsNot) (rIsT not) := by
  intro pins s σ H x y v u Q I rx ry h
  obtain ⟨b, rfl, q⟩ := h
  cases (show u = Value.bool b from ry)
  by_cases e : x = .bl b
  · subst e
    cases (show v = Value.bool b from rx)
    exact wpAny_isNot_self rfl ⟨.bl false, H, I, rfl, by simpa using q⟩
  · have ne : v ≠ Value.bool b := by
      rintro rfl
      apply e
      cases x <;> first
        | (cases rx; done)
        | (cases rx; rfl)
        | (obtain ⟨t, z⟩ := rx; cases z)
    have hp : plainIs v (Value.bool b) = true := by
      cases x <;> first
        | (cases rx; rfl)
        | (obtain ⟨t, rfl⟩ := rx; rfl)
    exact wpAny_isNot_other hp ne ⟨.bl true, H, I, rfl, by simpa [e] using q⟩
def rIsN1 (f : Bool → Bool) : R2 := fun x y H Q => y = .non ∧ Q (.bl (f (decide (x = .non)))) H
def rIsTy (f : Bool → Bool) : R2 := fun x y H Q => ∃ m n, x = .ty m ∧ y = .ty n ∧ Q (.bl (f (decide (m = n)))) H
def rIS (_ : PySem.W.Frag) : R2 := fun x y H Q => rIsN1 id x y H Q ∨ rIsTy id x y H Q ∨ rIsT id x y H Q
theorem op_IS : OpR X (compareOp .Is) (rIS X.K) := OpR.or (r := rIsN1 id) op_isN (OpR.or (r := rIsTy id) op_isTyB op_is_true)
def rISN (_ : PySem.W.Frag) : R2 := fun x y H Q => rIsN1 not x y H Q ∨ rIsTy not x y H Q ∨ rIsT not x y H Q
theorem op_ISN : OpR X (compareOp .IsNot) (rISN X.K) := OpR.or (r := rIsN1 not) op_notN (OpR.or (r := rIsTy not) op_notTyB op_isnot_true)
/-- in: a sign in a text; in a list or tuple -/
def rInSg (f : Bool → Bool) : R2 := fun x y H Q => ∃ (c : Nat) (z : Str), x = .str ⟨#[c]⟩ ∧ y = .str z ∧ Q (.bl (f (decide (c ∈ z.cps.toList)))) H
def rINU (K : PySem.W.Frag) : R2 := fun x y H Q => rInSg id x y H Q ∨ rIn K false x y H Q
theorem op_IN : OpR X (compareOp .In) (rINU X.K) := OpR.or (r := rInSg id) op_in_sign op_in_seq
def rNINU (K : PySem.W.Frag) : R2 := fun x y H Q => rInSg not x y H Q ∨ rIn K true x y H Q
theorem op_NIN : OpR X (compareOp .NotIn) (rNINU X.K) := OpR.or (r := rInSg not) op_notIn_sign op_notIn_seq
/-! #### subscripts, slices -/
def rIX (K : PySem.W.Frag) : R2 := rIx K
theorem ix_SEQ : IxR X (rIX X.K) := ix_seq
def rSL (K : PySem.W.Frag) : V → Option Int → Option Int → Hp → VK → Prop := fun x lo hi H Q => rSlS x lo hi H Q ∨ rSlL K x lo hi H Q ∨ rSlA K x lo hi H Q
theorem sl_SEQ : SlR X (rSL X.K) := SlR.or sl_str (SlR.or sl_list sl_tupA)
/-! #### tests -/
def tTru1 (K : PySem.W.Frag) (ta : TE) : TT := fun σ H Q => ta σ H fun x H' => ∃ k, TruV K x H' k ∧ Q k H'
theorem pt_tru {a : Expr} {ta : TE} (ha : PE X a ta) (he : ∀ whole, isTrue a X.env whole = (do let v ← whole; standAt a.pos; holding [v] (truthy v))) : PT X a (tTru1 X.K ta) := pt_truth ha he
/-! #### the module's constants -/
theorem pe_cI {x : Str} {i : Int} {pos : Pos} (hg : Gl X x) (h : ∃ t, X.mg x = some (.int i t)) (hd : (x == ("__debug__" : Str)) = false := by decide) : PE X (.Name x pos) (tC (.int i)) := by
  obtain ⟨t, h⟩ := h
  exact pe_glob hg h ⟨t, rfl⟩ hd
theorem pe_cS {x : Str} {i : Str} {pos : Pos} (hg : Gl X x) (h : ∃ t, X.mg x = some (.str i t)) (hd : (x == ("__debug__" : Str)) = false := by decide) : PE X (.Name x pos) (tC (.str i)) := by
  obtain ⟨t, h⟩ := h
  exact pe_glob hg h ⟨t, rfl⟩ hd
theorem pe_cR {x : Str} {a : Addr} {pos : Pos} (hg : Gl X x) (h : X.mg x = some (.ref a)) (hd : (x == ("__debug__" : Str)) = false := by decide) : PE X (.Name x pos) (tC (.ref a)) := pe_glob hg h rfl hd
/-! #### calls with keywords alone -/
section
variable {CX : CXT} {k : Nat} {f C : Addr} {fd : FuncData} {ps ks : List Str} {sp : Sp} {E : XK} {x m : Str} {p pos apos kpos : Pos} {e o : Expr} {es : List Expr} {kws : List Keyword} {te ta : TE} {t tk : TA} {nm : Option Str}
variable {g : List Value → List Value → List Value} {gV : List V → List V → List V}
def tCallK0 (sp : Sp) (gV : List V → List V → List V) (E : XK) (tk : TA) : TE := fun σ H Q => tk σ H fun zs H2 => sp (gV [] zs) H2 Q E
theorem pe_callK0 (F : FnOk X.prog X.w X.K X.mg X.base CX k f fd ps sp) (hr : Room k X.A) (hg : Gl X x) (hm : X.mg x = some (.ref f)) (hk : PySem.W.keepIn X.K (.ref f) = true) (hb : KBinds X.K fd ps ks g gV) (hx : Passes CX X E)
    (hkw : PK X kws tk) (hall : (backToKw pos (keywordEach kws X.env)).all (·.1.isSome) = true := by rfl) (hks : (backToKw pos (keywordEach kws X.env)).filterMap (·.1) = ks := by rfl)
    (hdb : (x == ("__debug__" : Str)) = false := by decide)
    (hpl : ((backTo pos (starEach [] X.env)).any (·.1) || (backToKw pos (keywordEach kws X.env)).any (·.1.isNone)) = false := by rfl) :
    PE X (.Call (.Name x p) [] kws pos) (tCallK0 sp gV E tk) := by
  refine ⟨fun pins s σ H Q I h => ?_⟩
  refine wpAny_Call_Name_kw (ld_glob I hg hm ?_ hdb)
  refine PySem.W.callWith_KW0 (h₀ := X.base) I.ok.mod.kin hk hall ?_ hpl
  refine thn (hkw.run pos pins s σ H _ I h) fun ws s2 ⟨zs, H2, I2, rz, q2⟩ => ⟨I2.kIn, ?_⟩
  rw [hks]
  exact run_fnk (us := []) (vs := []) F hr hb hx I2 .nil rz q2
end
/-! #### built-ins -/
def rINT : List V → Hp → VK → Prop := fun xs H Q => ((∃ i, xs = [.int i] ∧ Q (.int i) H) ∨ ∃ k, xs = [.bl k] ∧ Q (.int (if k then 1 else 0)) H) ∨ ∃ a n, xs = [.str a] ∧ PySem.intText? a = some n ∧ a.length ≤ 640 ∧ Q (.int n) H
theorem call_INT : CallR X (.type "int") rINT := call_int1.or call_int_str
def rSTR : List V → Hp → VK → Prop := fun xs H Q => ∃ i, xs = [.int i] ∧ i.natAbs.log2 < 1920 ∧ Q (.str (toString i)) H
theorem call_STR : CallR X (.type "str") rSTR := call_str_int
def rTUPLE (K : PySem.W.Frag) : List V → Hp → VK → Prop := fun xs H Q => ∃ p ys, xs = [.ref p] ∧ ((SqL K H p ys ∧ ∀ l, H l = none → Q (.ref l) (upd H l (.tup ys))) ∨ (SqT K H p ys ∧ Q (.ref p) H))
theorem call_TUPLE : CallR X (.type "tuple") (rTUPLE X.K) := call_tuple_of
def rLIST (K : PySem.W.Frag) : List V → Hp → VK → Prop := fun xs H Q => ∃ p ys, xs = [.ref p] ∧ (SqL K H p ys ∨ SqT K H p ys) ∧ ∀ l, H l = none → Q (.ref l) (upd H l (.lst ys))
theorem call_LIST : CallR X (.type "list") (rLIST X.K) := call_list_of
def rLenQ (K : PySem.W.Frag) : List V → Hp → VK → Prop := fun xs H Q => ∃ p ys, xs = [.ref p] ∧ (SqL K H p ys ∨ SqT K H p ys) ∧ Q (.int ys.length) H
def rLenS : List V → Hp → VK → Prop := fun xs H Q => ∃ z, xs = [.str z] ∧ z.length ≤ sizeLine ∧ Q (.int z.length) H
def rLEN (K : PySem.W.Frag) : List V → Hp → VK → Prop := fun xs H Q => rLenS xs H Q ∨ rLenQ K xs H Q
theorem call_LEN : CallR X (.builtin "len") (rLEN X.K) := CallR.or (r := rLenS) (r' := rLenQ X.K) call_len_str call_len_seq
def rABS : List V → Hp → VK → Prop := fun xs H Q => ∃ i, xs = [.int i] ∧ Q (.int (if i < 0 then -i else i)) H
theorem call_ABS : CallR X (.builtin "abs") rABS := call_abs
def rMAX2 : List V → Hp → VK → Prop := fun xs H Q => ∃ i j, xs = [.int i, .int j] ∧ Q (.int (if j > i then j else i)) H
theorem call_MAX2 (hc : X.calm = true) : CallR X (.builtin "max") rMAX2 := call_max2 hc
def rMIN2 : List V → Hp → VK → Prop := fun xs H Q => ∃ i j, xs = [.int i, .int j] ∧ Q (.int (if j < i then j else i)) H
theorem call_MIN2 (hc : X.calm = true) : CallR X (.builtin "min") rMIN2 := call_min2 hc
def rISI (K : PySem.W.Frag) : List V → Hp → VK → Prop := fun xs H Q => rIsi K xs H Q ∨ rIsiT K xs H Q
theorem call_ISI : CallR X (.builtin "isinstance") (rISI X.K) := call_isi.or call_isiT
/-! #### methods -/
def rM_isascii : V → List V → Hp → VK → Prop := fun x xs H Q => ∃ a, x = .str a ∧ xs = [] ∧ True ∧ Q (.bl (Txt.isascii a)) H
def rM_isprintable : V → List V → Hp → VK → Prop := fun x xs H Q => ∃ a, x = .str a ∧ xs = [] ∧ True ∧ Q (.bl (Txt.isprintable a)) H
def rM_isdigit : V → List V → Hp → VK → Prop := fun x xs H Q => ∃ a, x = .str a ∧ xs = [] ∧ True ∧ Q (.bl (Txt.isdigit a)) H
def rM_find : V → List V → Hp → VK → Prop := fun x xs H Q => ∃ a b, x = .str a ∧ xs = [.str b] ∧ Q (.int (Txt.find a b)) H
def rM_zfill : V → List V → Hp → VK → Prop := fun x xs H Q => ∃ (a : Str) (i : Int), x = .str a ∧ xs = [.int i] ∧ PadOk i = true ∧ Q (.str (Txt.zfill a i)) H
def rM_rjust : V → List V → Hp → VK → Prop := fun x xs H Q => ∃ (a : Str) (i : Int), x = .str a ∧ xs = [.int i] ∧ PadOk i = true ∧ Q (.str (Txt.rjust a i)) H
def rJoin (K : PySem.W.Frag) : V → List V → Hp → VK → Prop := fun x xs H Q => ∃ a p, ∃ ys : List Str, x = .str a ∧ xs = [.ref p] ∧ (SqL K H p (ys.map V.str) ∨ SqT K H p (ys.map V.str)) ∧
      (ys.map (·.length)).sum + ys.length * a.length ≤ 16777216 ∧ Q (.str (Txt.join a ys)) H
def rPOP : V → List V → Hp → VK → Prop := rPopAt
theorem mt_POP : MtR X "list.pop" rPOP := mt_popAt
theorem mt_FIND : MtR X "str.find" rM_find := mt_find
theorem mt_ZFILL : MtR X "str.zfill" rM_zfill := mt_zfill
theorem mt_RJUST : MtR X "str.rjust" rM_rjust := mt_rjust
/-- {x:0wd}: a number not below 0, with noughts ahead up to w signs -/
def zpad (w : Nat) (i : Int) : Str := ⟨(List.replicate (w - (Nat.toDigits 10 i.toNat).length) 48 ++ (Nat.toDigits 10 i.toNat).map Char.toNat).toArray⟩
end
end My

set_option Elab.async false
set_option linter.all false
set_option maxRecDepth 100000
set_option maxHeartbeats 400000
namespace My
open PySem PySem.Spec PyProof.Rows L2
section
variable {X : Cx}
theorem zpad_of {w : Nat} {a : Int} {D : List Nat} (h0 : 0 ≤ a) (hD : D = (Nat.toDigits 10 a.natAbs).map Char.toNat) (p1 : Nat) (p2 : Nat) (h1 : p1 = w - D.length) (h2 : p2 = 0) :
    (⟨(List.replicate 0 48 ++ [] ++ [] ++ List.replicate p2 48 ++ (List.replicate p1 48 ++ D) ++ [] ++ List.replicate 0 48).toArray⟩ : Str) = zpad w a := by
  subst hD h1 h2
  unfold zpad
  have e : a.natAbs = a.toNat := by omega
  rw [e, List.length_map]
  simp
theorem zpad_len {w : Nat} {a : Int} (h0 : 0 ≤ a) (hl : a.natAbs.log2 < 1920) (hw : w ≤ 100) : (zpad w a).length ≤ sizeLine := by
  have h1 : (Nat.toDigits 10 a.toNat).length ≤ 1921 := by
    have h2 : a.toNat < 10 ^ 1921 := by
      have h3 : a.toNat < 2 ^ 1920 := by
        have h4 : a.toNat = a.natAbs := by omega
        rw [h4]
        by_cases hz : a.natAbs = 0
        · rw [hz]; exact Nat.two_pow_pos _
        · exact (Nat.log2_lt hz).mp hl
      exact Nat.lt_of_lt_of_le h3 (Nat.le_trans (Nat.pow_le_pow_left (show 2 ≤ 10 by decide) 1920) (Nat.pow_le_pow_right (by decide) (by decide)))
    have h5 := (Nat.length_repr_le_iff (n := a.toNat) (k := 1921) (by decide)).mpr h2
    rwa [← String.length_toList, Nat.toList_repr] at h5
  show (List.toArray _).size ≤ sizeLine
  rw [List.size_toArray, List.length_append, List.length_replicate, List.length_map]
  exact Nat.le_trans (show _ ≤ 2100 by omega) (by decide)
theorem ret_text2 {M : Model} {A : Around} {E : Value → Shared → Prop} {s : Shared} {X T : PySem.Str} {Q : PySem.Fin → Shared → Prop} (e : X = T) (hL : T.length ≤ sizeLine) (h : ∀ t k, Q (.done (.ret (.str T t))) { s with toks := k }) : wpAny M A (retStr X) Q E s := by
  subst e
  exact PySem.W.KXf.ret_text rfl hL h
theorem fmt0_meets_3 {a : Int} {t : Tok} (h0 : 0 ≤ a) (hl : a.natAbs.log2 < 1920) :
  ∀ u, Meets (Builtin.«int.__format__» ⟨[.int a t, .str (Str.ofString "03d") u], []⟩) (fun _ R s => ∀ t' k, R (.ok (.ret (.str (zpad 3 a) t'))) { s with toks := k }) := by
  have hn : decide (a < 0) = false := decide_eq_false (by omega)
  intro u
  apply PySem.W.KPc.meets_of
  intro prog w A s Q E h
  unfold Builtin.«int.__format__»
  refine wpAny_bind (wpAny_of_eq (a := (_, _)) rfl ?_)
  refine wpAny_bind (wpAny_of_eq (a := _) rfl ?_)
  kxf_if
  refine wpAny_bind (wpAny_typeNameOf (T := "str") (typeIs_str _ _ _) (by decide) fun _ => ?_)
  refine wpAny_bind (wpAny_of_eq (a := some _) rfl ?_)
  kxf_if
  kxf_if
  refine wpAny_bind (wpAny_typeNameOfCut_int ?_)
  (repeat kxf_if)
  refine wpAny_bind (wpAny_of_eq (PySem.overDigitLimit_small hl) ?_)
  (repeat kxf_if)
  refine ret_text2 (T := zpad 3 a) ?_ (zpad_len h0 hl (by decide)) (fun t' k => h t' k)
  rw [hn]
  generalize hD : (List.map _ (Nat.toDigits _ a.natAbs)) = D
  have hD' : D = (Nat.toDigits 10 a.natAbs).map Char.toNat := hD.symm
  clear hD
  cases D with
  | nil => exact absurd (congrArg List.length hD') (by rw [List.length_map]; have := Nat.length_toDigits_pos (b := 10) (n := a.natAbs); simp; omega)
  | cons d ds =>
    refine zpad_of h0 hD' _ _ ?_ ?_
    · rfl
    · show ((3 : Int) - 0 - (((List.replicate (3 - (d :: ds).length) 48 ++ (d :: ds)).length : Nat) : Int)).toNat = 0
      rw [List.length_append, List.length_replicate]
      omega
theorem fmt0_meets_4 {a : Int} {t : Tok} (h0 : 0 ≤ a) (hl : a.natAbs.log2 < 1920) :
  ∀ u, Meets (Builtin.«int.__format__» ⟨[.int a t, .str (Str.ofString "04d") u], []⟩) (fun _ R s => ∀ t' k, R (.ok (.ret (.str (zpad 4 a) t'))) { s with toks := k }) := by
  have hn : decide (a < 0) = false := decide_eq_false (by omega)
  intro u
  apply PySem.W.KPc.meets_of
  intro prog w A s Q E h
  unfold Builtin.«int.__format__»
  refine wpAny_bind (wpAny_of_eq (a := (_, _)) rfl ?_)
  refine wpAny_bind (wpAny_of_eq (a := _) rfl ?_)
  kxf_if
  refine wpAny_bind (wpAny_typeNameOf (T := "str") (typeIs_str _ _ _) (by decide) fun _ => ?_)
  refine wpAny_bind (wpAny_of_eq (a := some _) rfl ?_)
  kxf_if
  kxf_if
  refine wpAny_bind (wpAny_typeNameOfCut_int ?_)
  (repeat kxf_if)
  refine wpAny_bind (wpAny_of_eq (PySem.overDigitLimit_small hl) ?_)
  (repeat kxf_if)
  refine ret_text2 (T := zpad 4 a) ?_ (zpad_len h0 hl (by decide)) (fun t' k => h t' k)
  rw [hn]
  generalize hD : (List.map _ (Nat.toDigits _ a.natAbs)) = D
  have hD' : D = (Nat.toDigits 10 a.natAbs).map Char.toNat := hD.symm
  clear hD
  cases D with
  | nil => exact absurd (congrArg List.length hD') (by rw [List.length_map]; have := Nat.length_toDigits_pos (b := 10) (n := a.natAbs); simp; omega)
  | cons d ds =>
    refine zpad_of h0 hD' _ _ ?_ ?_
    · rfl
    · show ((4 : Int) - 0 - (((List.replicate (4 - (d :: ds).length) 48 ++ (d :: ds)).length : Nat) : Int)).toNat = 0
      rw [List.length_append, List.length_replicate]
      omega
theorem fmt0_meets_6 {a : Int} {t : Tok} (h0 : 0 ≤ a) (hl : a.natAbs.log2 < 1920) :
  ∀ u, Meets (Builtin.«int.__format__» ⟨[.int a t, .str (Str.ofString "06d") u], []⟩) (fun _ R s => ∀ t' k, R (.ok (.ret (.str (zpad 6 a) t'))) { s with toks := k }) := by
  have hn : decide (a < 0) = false := decide_eq_false (by omega)
  intro u
  apply PySem.W.KPc.meets_of
  intro prog w A s Q E h
  unfold Builtin.«int.__format__»
  refine wpAny_bind (wpAny_of_eq (a := (_, _)) rfl ?_)
  refine wpAny_bind (wpAny_of_eq (a := _) rfl ?_)
  kxf_if
  refine wpAny_bind (wpAny_typeNameOf (T := "str") (typeIs_str _ _ _) (by decide) fun _ => ?_)
  refine wpAny_bind (wpAny_of_eq (a := some _) rfl ?_)
  kxf_if
  kxf_if
  refine wpAny_bind (wpAny_typeNameOfCut_int ?_)
  (repeat kxf_if)
  refine wpAny_bind (wpAny_of_eq (PySem.overDigitLimit_small hl) ?_)
  (repeat kxf_if)
  refine ret_text2 (T := zpad 6 a) ?_ (zpad_len h0 hl (by decide)) (fun t' k => h t' k)
  rw [hn]
  generalize hD : (List.map _ (Nat.toDigits _ a.natAbs)) = D
  have hD' : D = (Nat.toDigits 10 a.natAbs).map Char.toNat := hD.symm
  clear hD
  cases D with
  | nil => exact absurd (congrArg List.length hD') (by rw [List.length_map]; have := Nat.length_toDigits_pos (b := 10) (n := a.natAbs); simp; omega)
  | cons d ds =>
    refine zpad_of h0 hD' _ _ ?_ ?_
    · rfl
    · show ((6 : Int) - 0 - (((List.replicate (6 - (d :: ds).length) 48 ++ (d :: ds)).length : Nat) : Int)).toNat = 0
      rw [List.length_append, List.length_replicate]
      omega
theorem fmt0_meets_8 {a : Int} {t : Tok} (h0 : 0 ≤ a) (hl : a.natAbs.log2 < 1920) :
  ∀ u, Meets (Builtin.«int.__format__» ⟨[.int a t, .str (Str.ofString "08d") u], []⟩) (fun _ R s => ∀ t' k, R (.ok (.ret (.str (zpad 8 a) t'))) { s with toks := k }) := by
  have hn : decide (a < 0) = false := decide_eq_false (by omega)
  intro u
  apply PySem.W.KPc.meets_of
  intro prog w A s Q E h
  unfold Builtin.«int.__format__»
  refine wpAny_bind (wpAny_of_eq (a := (_, _)) rfl ?_)
  refine wpAny_bind (wpAny_of_eq (a := _) rfl ?_)
  kxf_if
  refine wpAny_bind (wpAny_typeNameOf (T := "str") (typeIs_str _ _ _) (by decide) fun _ => ?_)
  refine wpAny_bind (wpAny_of_eq (a := some _) rfl ?_)
  kxf_if
  kxf_if
  refine wpAny_bind (wpAny_typeNameOfCut_int ?_)
  (repeat kxf_if)
  refine wpAny_bind (wpAny_of_eq (PySem.overDigitLimit_small hl) ?_)
  (repeat kxf_if)
  refine ret_text2 (T := zpad 8 a) ?_ (zpad_len h0 hl (by decide)) (fun t' k => h t' k)
  rw [hn]
  generalize hD : (List.map _ (Nat.toDigits _ a.natAbs)) = D
  have hD' : D = (Nat.toDigits 10 a.natAbs).map Char.toNat := hD.symm
  clear hD
  cases D with
  | nil => exact absurd (congrArg List.length hD') (by rw [List.length_map]; have := Nat.length_toDigits_pos (b := 10) (n := a.natAbs); simp; omega)
  | cons d ds =>
    refine zpad_of h0 hD' _ _ ?_ ?_
    · rfl
    · show ((8 : Int) - 0 - (((List.replicate (8 - (d :: ds).length) 48 ++ (d :: ds)).length : Nat) : Int)).toNat = 0
      rw [List.length_append, List.length_replicate]
      omega
/-- 0wd: the specs that are served -/
def FmtW (spec : Str) (w : Nat) : Prop := (spec = Str.ofString "06d" ∧ w = 6) ∨ (spec = Str.ofString "04d" ∧ w = 4) ∨ (spec = Str.ofString "03d" ∧ w = 3) ∨ (spec = Str.ofString "08d" ∧ w = 8)
def tFmt0 (w : Nat) (te : TE) : TE := fun σ H Q => te σ H fun x H1 => ∃ i : Int, x = .int i ∧ 0 ≤ i ∧ i.natAbs.log2 < 1920 ∧ Q (.str (zpad w i)) H1
theorem pe_fmt0 (w : Nat) {spec : Str} {e : Expr} {te : TE} {j : Nat} {p1 p2 pos : Pos} (he : PE X e te) (hs : FmtW spec w := by first | exact .inl ⟨rfl, rfl⟩ | exact .inr (.inl ⟨rfl, rfl⟩) | exact .inr (.inr (.inl ⟨rfl, rfl⟩)) | exact .inr (.inr (.inr ⟨rfl, rfl⟩))) :
    PE X (.FormattedValue e (-1) (some (.JoinedStr [.Constant (.str spec) j p1] p2)) pos) (tFmt0 w te) := by
  refine ⟨fun pins s σ H Q I h => ?_⟩
  refine wpAny_FormattedValue_spec (thn (he.run pins s σ H _ I h) fun v s1 hv => ?_)
  obtain ⟨x, H1, I1, r1, i, rfl, h0, hl, q⟩ := hv
  obtain ⟨t, rfl⟩ := r1
  refine wpAny_JoinedStr_one (Calls.Constant_str ⟨spec, _, rfl, ?_⟩)
  rcases hs with ⟨rfl, rfl⟩ | ⟨rfl, rfl⟩ | ⟨rfl, rfl⟩ | ⟨rfl, rfl⟩
  · exact PySem.W.KXf.field_int rfl (by decide) (by decide) (fmt0_meets_6 h0 hl) fun t' k => ⟨.str (zpad 6 i), H1, I1.tok _, ⟨t', rfl⟩, q⟩
  · exact PySem.W.KXf.field_int rfl (by decide) (by decide) (fmt0_meets_4 h0 hl) fun t' k => ⟨.str (zpad 4 i), H1, I1.tok _, ⟨t', rfl⟩, q⟩
  · exact PySem.W.KXf.field_int rfl (by decide) (by decide) (fmt0_meets_3 h0 hl) fun t' k => ⟨.str (zpad 3 i), H1, I1.tok _, ⟨t', rfl⟩, q⟩
  · exact PySem.W.KXf.field_int rfl (by decide) (by decide) (fmt0_meets_8 h0 hl) fun t' k => ⟨.str (zpad 8 i), H1, I1.tok _, ⟨t', rfl⟩, q⟩
end
end My

set_option Elab.async false
set_option linter.all false
set_option maxRecDepth 100000
set_option maxHeartbeats 400000
/-! ### readings, step by step -/
namespace My
open PySem PySem.Spec PyProof.Rows L2
abbrev St := L2.St
section
variable {K : PySem.W.Frag} {σ : St} {H : Hp} {Q : VK} {ta tb tc te : TE} {t u c : TT} {tr tr' : TA} {r r' : R2} {v x y z : V}
theorem x_var {i : Nat} (h : σ[i]? = some (some v)) (q : Q v H) : tVar i σ H Q := ⟨v, h, q⟩
theorem x_c (q : Q v H) : tC v σ H Q := q
theorem x_op (h : ta σ H fun x H1 => tb σ H1 fun y H2 => r x y H2 Q) : tOp r ta tb σ H Q := h
theorem x_un {r : V → Hp → VK → Prop} (h : ta σ H fun x H1 => r x H1 Q) : tUn r ta σ H Q := h
theorem x_tst {Q : Bool → Hp → Prop} (h : te σ H fun x H' => ∃ k, x = .bl k ∧ Q k H') : tTest te σ H Q := h
theorem x_bl {Q : Bool → Hp → Prop} {b : Bool} (h : Q b H) : ∃ k, V.bl b = .bl k ∧ Q k H := ⟨b, rfl, h⟩
theorem x_tru {Q : Bool → Hp → Prop} (h : ta σ H fun x H' => ∃ k, TruV K x H' k ∧ Q k H') : tTru1 K ta σ H Q := h
theorem x_truB {P : Bool → Prop} {b : Bool} (h : P b) : ∃ k, TruV K (.bl b) H k ∧ P k := ⟨b, rfl, h⟩
theorem x_truL {P : Bool → Prop} {p : Addr} {xs : List V} (hs : SqL K H p xs) (h : P (!xs.isEmpty)) : ∃ k, TruV K (.ref p) H k ∧ P k := ⟨_, .inl ⟨xs, hs, rfl⟩, h⟩
theorem x_truT {P : Bool → Prop} {p : Addr} {xs : List V} (hs : SqT K H p xs) (h : P (!xs.isEmpty)) : ∃ k, TruV K (.ref p) H k ∧ P k := ⟨_, .inr (.inl ⟨xs, hs, rfl⟩), h⟩
theorem x_truS {P : Bool → Prop} {s : Str} (hs : s.length ≤ sizeLine) (h : P ((s.length : Int) != 0)) : ∃ k, TruV K (.str s) H k ∧ P k := ⟨_, ⟨hs, rfl⟩, h⟩
theorem x_not {Q : Bool → Hp → Prop} (h : t σ H fun c H1 => Q (!c) H1) : tNot t σ H Q := h
theorem x_and {Q : Bool → Hp → Prop} (h : t σ H fun c H1 => if c = true then u σ H1 Q else Q false H1) : tAnd t u σ H Q := h
theorem x_or {Q : Bool → Hp → Prop} (h : t σ H fun c H1 => if c = true then Q true H1 else u σ H1 Q) : tOr t u σ H Q := h
theorem x_andV (h : ta σ H fun x H1 => ∃ c, x = .bl c ∧ if c = true then tb σ H1 Q else Q (.bl false) H1) : tAndV ta tb σ H Q := h
theorem x_orV (h : ta σ H fun x H1 => ∃ c, x = .bl c ∧ if c = true then Q (.bl true) H1 else tb σ H1 Q) : tOrV ta tb σ H Q := h
theorem x_notV (h : ta σ H fun x H1 => ∃ c, x = .bl c ∧ Q (.bl (!c)) H1) : tNotV ta σ H Q := h
theorem x_bl2 {b : Bool} {P : Bool → Prop} (h : P b) : ∃ k, V.bl b = .bl k ∧ P k := ⟨b, rfl, h⟩
theorem x_yes {Q : Bool → Hp → Prop} (h : Q true H) : tYes σ H Q := h
theorem x_if (h : c σ H fun b H1 => if b = true then ta σ H1 Q else tb σ H1 Q) : tIf c ta tb σ H Q := h
theorem x_nil {Q : List V → Hp → Prop} (q : Q [] H) : tNil σ H Q := q
theorem x_cons {Q : List V → Hp → Prop} (h : ta σ H fun x H1 => tr σ H1 fun xs H2 => Q (x :: xs) H2) : tCons ta tr σ H Q := h
theorem x_tup (h : tr σ H fun xs H1 => xs.length ≤ sizeLine ∧ ∀ p, H1 p = none → Q (.ref p) (upd H1 p (.tup xs))) : tTup tr σ H Q := h
theorem x_lst (h : tr σ H fun xs H1 => xs.length ≤ sizeLine ∧ ∀ p, H1 p = none → Q (.ref p) (upd H1 p (.lst xs))) : tLst tr σ H Q := h
theorem x_call {sp : Sp} {E : XK} (h : tr σ H fun vs H1 => sp vs H1 Q E) : tCall sp [] E tr σ H Q := by
  have e : (fun (vs : List V) (H1 : Hp) => sp (vs ++ []) H1 Q E) = fun vs H1 => sp vs H1 Q E := by funext vs H1; rw [List.append_nil]
  show tr σ H fun vs H1 => sp (vs ++ []) H1 Q E
  rw [e]
  exact h
theorem x_callK {sp : Sp} {gV : List V → List V → List V} {E : XK} (h : tr σ H fun vs H1 => tr' σ H1 fun zs H2 => sp (gV vs zs) H2 Q E) : tCallK sp gV E tr tr' σ H Q := h
theorem x_callK0 {sp : Sp} {gV : List V → List V → List V} {E : XK} (h : tr σ H fun zs H2 => sp (gV [] zs) H2 Q E) : tCallK0 sp gV E tr σ H Q := h
theorem x_cb {r : List V → Hp → VK → Prop} (h : tr σ H fun vs H1 => r vs H1 Q) : tCB r tr σ H Q := h
theorem x_bm {T : String} {r : V → List V → Hp → VK → Prop} (h : ta σ H fun x H1 => tyV K T x H1 ∧ tr σ H1 fun xs H2 => r x xs H2 Q) : tBM K T r ta tr σ H Q := h
theorem x_bm0 {T : String} {r : V → List V → Hp → VK → Prop} (h : ta σ H fun x H1 => tyV K T x H1 ∧ r x [] H1 Q) : tBM0 K T r ta σ H Q := h
theorem x_tyS {s : Str} {P : Prop} (h : P) : tyV K "str" (.str s) H ∧ P := ⟨rfl, h⟩
theorem x_tyL {p : Addr} {xs : List V} {P : Prop} (hs : SqL K H p xs) (h : P) : tyV K "list" (.ref p) H ∧ P := ⟨.inl ⟨rfl, xs, hs⟩, h⟩
theorem x_sl {r : V → Option Int → Option Int → Hp → VK → Prop} {tl th : TO} (h : te σ H fun x H1 => tl σ H1 fun l H2 => th σ H2 fun u H3 => r x l u H3 Q) : tSl r te tl th σ H Q := h
theorem x_nopart {Q : Option Int → Hp → Prop} (h : Q none H) : tNoPart σ H Q := h
theorem x_part {Q : Option Int → Hp → Prop} (h : te σ H fun x H1 => ∃ i, x = .int i ∧ Q (some i) H1) : tPart te σ H Q := h
theorem x_int {i : Int} {P : Int → Prop} (h : P i) : ∃ k, V.int i = .int k ∧ P k := ⟨i, rfl, h⟩
theorem x_str {s : Str} {P : Str → Prop} (h : P s) : ∃ k, V.str s = .str k ∧ P k := ⟨s, rfl, h⟩
theorem x_fmt (h : te σ H fun x H1 => (∃ y : Str, x = .str y ∧ y.length ≤ sizeLine ∧ Q (.str y) H1) ∨ ∃ i : Int, x = .int i ∧ i.natAbs.log2 < 1920 ∧ Q (.str (toString i)) H1) : tFmt te σ H Q := h
theorem x_fmtS {s : Str} {P : Int → Prop} (hs : s.length ≤ sizeLine) (h : Q (.str s) H) : (∃ y : Str, V.str s = .str y ∧ y.length ≤ sizeLine ∧ Q (.str y) H) ∨ ∃ i : Int, V.str s = .int i ∧ i.natAbs.log2 < 1920 ∧ Q (.str (toString i)) H := .inl ⟨s, rfl, hs, h⟩
theorem x_fmt0 {w : Nat} (h : te σ H fun x H1 => ∃ i : Int, x = .int i ∧ 0 ≤ i ∧ i.natAbs.log2 < 1920 ∧ Q (.str (zpad w i)) H1) : tFmt0 w te σ H Q := h
theorem x_fmtI {w : Nat} {i : Int} (h0 : 0 ≤ i) (hl : i.natAbs.log2 < 1920) (h : Q (.str (zpad w i)) H) : ∃ k : Int, V.int i = .int k ∧ 0 ≤ k ∧ k.natAbs.log2 < 1920 ∧ Q (.str (zpad w k)) H := ⟨i, rfl, h0, hl, h⟩
theorem x_js0 {acc : Str} {Q : Str → Hp → Prop} (h : Q acc H) : tJs [] acc σ H Q := h
theorem x_js {acc : Str} {Q : Str → Hp → Prop} {ts : List TE} (h : te σ H fun x H1 => ∃ y : Str, x = .str y ∧ (acc ++ y).length ≤ sizeLine ∧ tJs ts (acc ++ y) σ H1 Q) : tJs (te :: ts) acc σ H Q := h
theorem x_jsS {s acc : Str} {Q : Str → Hp → Prop} {ts : List TE} (hs : (acc ++ s).length ≤ sizeLine) (h : tJs ts (acc ++ s) σ H Q) : ∃ y : Str, V.str s = .str y ∧ (acc ++ y).length ≤ sizeLine ∧ tJs ts (acc ++ y) σ H Q := ⟨s, rfl, hs, h⟩
theorem x_chain (h : ta σ H fun x H1 => tb σ H1 fun y H2 => r x y H2 fun z H3 => ∃ k, z = .bl k ∧ (if k = true then tc σ H3 fun w' H4 => r' y w' H4 Q else Q (.bl false) H3)) : tChain r r' ta tb tc σ H Q := h
/-! leaves -/
theorem a_ii {i j : Int} (h : Q (.int (i + j)) H) : rADD K (.int i) (.int j) H Q := .inl ⟨i, j, rfl, rfl, h⟩
theorem a_ss {i j : Str} (hl : i.length + j.length ≤ sizeLine) (h : Q (.str (i ++ j)) H) : rADD K (.str i) (.str j) H Q := .inr (.inl ⟨i, j, rfl, rfl, hl, h⟩)
theorem a_ll {p q : Addr} {xs ys : List V} (hp : H p = some (.lst xs)) (hq : H q = some (.lst ys)) (hl : xs.length + ys.length ≤ sizeLine) (h : ∀ l, H l = none → Q (.ref l) (upd H l (.lst (xs ++ ys)))) : rADD K (.ref p) (.ref q) H Q :=
  .inr (.inr (.inl ⟨p, q, xs, ys, rfl, rfl, hp, hq, hl, h⟩))
theorem a_tt {p q : Addr} {xs ys : List V} (hp : SqT K H p xs) (hq : SqT K H q ys) (hl : xs.length + ys.length ≤ sizeLine) (h : (xs = [] → Q (.ref q) H) ∧ (xs ≠ [] → ys = [] → Q (.ref p) H) ∧ (xs ≠ [] → ys ≠ [] → ∀ l, H l = none → Q (.ref l) (upd H l (.tup (xs ++ ys))))) : rADD K (.ref p) (.ref q) H Q :=
  .inr (.inr (.inr ⟨p, q, xs, ys, rfl, rfl, hp, hq, hl, h⟩))
theorem s_ii {i j : Int} (h : Q (.int (i - j)) H) : rSUB (.int i) (.int j) H Q := ⟨i, j, rfl, rfl, h⟩
theorem m_ii {i j : Int} (hc : CMulA i j) (h : Q (.int (i * j)) H) : rMUL K (.int i) (.int j) H Q := .inl ⟨i, j, rfl, rfl, hc, h⟩
theorem m_si {s : Str} {k : Int} (h1 : -(2 ^ 63) ≤ k) (h2 : k < 2 ^ 63) (hl : s.length * k.toNat ≤ sizeLine) (h : Q (.str (repS s k)) H) : rMUL K (.str s) (.int k) H Q := .inr (.inl ⟨s, k, rfl, rfl, h1, h2, hl, h⟩)
theorem m_li {p : Addr} {xs : List V} {k : Int} (hp : H p = some (.lst xs)) (h1 : -(2 ^ 63) ≤ k) (h2 : k < 2 ^ 63) (hl : xs.length * k.toNat ≤ sizeLine) (h : ∀ l, H l = none → Q (.ref l) (upd H l (.lst (List.replicate k.toNat xs).flatten))) : rMUL K (.ref p) (.int k) H Q :=
  .inr (.inr ⟨p, k, xs, rfl, rfl, hp, h1, h2, hl, h⟩)
theorem md_ii {i j : Int} (hc : 0 < j) (h : Q (.int (i % j)) H) : rMOD (.int i) (.int j) H Q := ⟨i, j, rfl, rfl, hc, h⟩
theorem fd_ii {i j : Int} (hc : CDivW i j) (h : Q (.int (i / j)) H) : rFDIV (.int i) (.int j) H Q := ⟨i, j, rfl, rfl, hc, h⟩
theorem pw_ii {i j : Int} (hc : CPow i j) (h : Q (.int (i ^ j.toNat)) H) : rPOW (.int i) (.int j) H Q := ⟨i, j, rfl, rfl, hc, h⟩
theorem n_i {i : Int} (h : Q (.int (-i)) H) : rNEG (.int i) H Q := ⟨i, rfl, h⟩
theorem e_ii {i j : Int} (h : Q (.bl (decide (i = j))) H) : rEQ K (.int i) (.int j) H Q := .inl ⟨rfl, by rw [show decide (V.int i = V.int j) = decide (i = j) by simp]; exact h⟩
theorem e_ss {i j : Str} (h : Q (.bl (decide (i = j))) H) : rEQ K (.str i) (.str j) H Q := .inl ⟨rfl, by rw [show decide (V.str i = V.str j) = decide (i = j) by simp]; exact h⟩
theorem e_bb {i j : Bool} (h : Q (.bl (decide (i = j))) H) : rEQ K (.bl i) (.bl j) H Q := .inl ⟨rfl, by rw [show decide (V.bl i = V.bl j) = decide (i = j) by simp]; exact h⟩
theorem e_d {d e : PyData} (hd : Dp K H x d) (he : Dp K H y e) (h1 : SeqAt.shaped d = true) (h2 : SeqAt.shaped e = true) (h : Q (.bl (PyData.eqv d e)) H) : rEQ K x y H Q := .inr ⟨d, e, hd, he, h1, h2, h⟩
theorem ne_ii {i j : Int} (h : Q (.bl (!decide (i = j))) H) : rNE K (.int i) (.int j) H Q := .inl ⟨rfl, by rw [show decide (V.int i = V.int j) = decide (i = j) by simp]; exact h⟩
theorem ne_ss {i j : Str} (h : Q (.bl (!decide (i = j))) H) : rNE K (.str i) (.str j) H Q := .inl ⟨rfl, by rw [show decide (V.str i = V.str j) = decide (i = j) by simp]; exact h⟩
theorem ne_bb {i j : Bool} (h : Q (.bl (!decide (i = j))) H) : rNE K (.bl i) (.bl j) H Q := .inl ⟨rfl, by rw [show decide (V.bl i = V.bl j) = decide (i = j) by simp]; exact h⟩
theorem ne_d {d e : PyData} (hd : Dp K H x d) (he : Dp K H y e) (h1 : SeqAt.shaped d = true) (h2 : SeqAt.shaped e = true) (h : Q (.bl (!PyData.eqv d e)) H) : rNE K x y H Q := .inr ⟨d, e, hd, he, h1, h2, h⟩
theorem lt_ii {i j : Int} (h : Q (.bl (decide (i < j))) H) : rLT (.int i) (.int j) H Q := .inl ⟨i, j, rfl, rfl, h⟩
theorem lt_ss {i j : Str} (h : Q (.bl (decide (i.cps.toList < j.cps.toList))) H) : rLT (.str i) (.str j) H Q := .inr ⟨i, j, rfl, rfl, h⟩
theorem le_ii {i j : Int} (h : Q (.bl (decide (i ≤ j))) H) : rLE (.int i) (.int j) H Q := .inl ⟨i, j, rfl, rfl, h⟩
theorem gt_ii {i j : Int} (h : Q (.bl (decide (j < i))) H) : rGT (.int i) (.int j) H Q := .inl ⟨i, j, rfl, rfl, h⟩
theorem gt_ss {i j : Str} (h : Q (.bl (decide (j.cps.toList < i.cps.toList))) H) : rGT (.str i) (.str j) H Q := .inr ⟨i, j, rfl, rfl, h⟩
theorem ge_ii {i j : Int} (h : Q (.bl (decide (j ≤ i))) H) : rGE (.int i) (.int j) H Q := .inl ⟨i, j, rfl, rfl, h⟩
theorem is_N (h : Q (.bl (decide (x = .non))) H) : rIS K x .non H Q := .inl ⟨rfl, h⟩
theorem is_T {m n : String} (h : Q (.bl (decide (m = n))) H) : rIS K (.ty m) (.ty n) H Q := .inr (.inl ⟨m, n, rfl, rfl, h⟩)
theorem is_B {b : Bool} (h : Q (.bl (decide (x = .bl b))) H) : rIS K x (.bl b) H Q := .inr (.inr ⟨b, rfl, h⟩)
theorem isn_N (h : Q (.bl (!decide (x = .non))) H) : rISN K x .non H Q := .inl ⟨rfl, h⟩
theorem isn_T {m n : String} (h : Q (.bl (!decide (m = n))) H) : rISN K (.ty m) (.ty n) H Q := .inr (.inl ⟨m, n, rfl, rfl, h⟩)
theorem isn_B {b : Bool} (h : Q (.bl (!decide (x = .bl b))) H) : rISN K x (.bl b) H Q := .inr (.inr ⟨b, rfl, h⟩)
theorem in_s {c : Nat} {z : Str} (h : Q (.bl (decide (c ∈ z.cps.toList))) H) : rINU K (.str ⟨#[c]⟩) (.str z) H Q := .inl ⟨c, z, rfl, rfl, h⟩
theorem nin_s {c : Nat} {z : Str} (h : Q (.bl (!decide (c ∈ z.cps.toList))) H) : rNINU K (.str ⟨#[c]⟩) (.str z) H Q := .inl ⟨c, z, rfl, rfl, h⟩
theorem ix_L {p : Addr} {xs : List V} {i : Int} (hs : SqL K H p xs) (ha : atI xs i = some v) (h : Q v H) : rIX K (.ref p) (.int i) H Q := .inl ⟨p, xs, i, v, rfl, rfl, hs, ha, h⟩
theorem ix_T {p : Addr} {xs : List V} {i : Int} (hs : SqT K H p xs) (ha : atI xs i = some v) (h : Q v H) : rIX K (.ref p) (.int i) H Q := .inr (.inl ⟨p, xs, i, v, rfl, rfl, hs, ha, h⟩)
theorem ix_S {z : Str} {i : Int} {c : Nat} (hl : z.length ≤ sizeLine) (ha : atI z.cps.toList i = some c) (h : Q (.str ⟨#[c]⟩) H) : rIX K (.str z) (.int i) H Q := .inr (.inr ⟨z, i, c, rfl, rfl, hl, ha, h⟩)
theorem sl_S {z : Str} {lo hi : Option Int} (hl : z.length ≤ sizeLine) (h : Q (.str (cutS z lo hi)) H) : rSL K (.str z) lo hi H Q := .inl ⟨z, rfl, hl, h⟩
theorem sl_L {p : Addr} {xs : List V} {lo hi : Option Int} (hs : SqL K H p xs) (h : ∀ l, H l = none → Q (.ref l) (upd H l (.lst (cutV xs lo hi)))) : rSL K (.ref p) lo hi H Q := .inr (.inl ⟨p, xs, rfl, hs, h⟩)
theorem i_i {i : Int} (h : Q (.int i) H) : rINT [.int i] H Q := .inl (.inl ⟨i, rfl, h⟩)
theorem i_b {b : Bool} (h : Q (.int (if b then 1 else 0)) H) : rINT [.bl b] H Q := .inl (.inr ⟨b, rfl, h⟩)
theorem i_s {a : Str} {n : Int} (ha : PySem.intText? a = some n) (hl : a.length ≤ 640) (h : Q (.int n) H) : rINT [.str a] H Q := .inr ⟨a, n, rfl, ha, hl, h⟩
theorem st_i {i : Int} (hl : i.natAbs.log2 < 1920) (h : Q (.str (toString i)) H) : rSTR [.int i] H Q := ⟨i, rfl, hl, h⟩
theorem ln_s {z : Str} (hl : z.length ≤ sizeLine) (h : Q (.int z.length) H) : rLEN K [.str z] H Q := .inl ⟨z, rfl, hl, h⟩
theorem ln_l {p : Addr} {xs : List V} (hs : SqL K H p xs) (h : Q (.int xs.length) H) : rLEN K [.ref p] H Q := .inr ⟨p, xs, rfl, .inl hs, h⟩
theorem ln_t {p : Addr} {xs : List V} (hs : SqT K H p xs) (h : Q (.int xs.length) H) : rLEN K [.ref p] H Q := .inr ⟨p, xs, rfl, .inr hs, h⟩
theorem ab_i {i : Int} (h : Q (.int (if i < 0 then -i else i)) H) : rABS [.int i] H Q := ⟨i, rfl, h⟩
theorem mx_ii {i j : Int} (h : Q (.int (if j > i then j else i)) H) : rMAX2 [.int i, .int j] H Q := ⟨i, j, rfl, h⟩
theorem mn_ii {i j : Int} (h : Q (.int (if j < i then j else i)) H) : rMIN2 [.int i, .int j] H Q := ⟨i, j, rfl, h⟩
theorem ty_N (h : Q (.ty "NoneType") H) : rTyp K [.non] H Q := ⟨_, _, rfl, .non, h⟩
theorem ty_B {b : Bool} (h : Q (.ty "bool") H) : rTyp K [.bl b] H Q := ⟨_, _, rfl, .bl b, h⟩
theorem ty_I {i : Int} (h : Q (.ty "int") H) : rTyp K [.int i] H Q := ⟨_, _, rfl, .int i, h⟩
theorem ty_S {s : Str} (h : Q (.ty "str") H) : rTyp K [.str s] H Q := ⟨_, _, rfl, .str s, h⟩
theorem ty_L {p : Addr} {xs : List V} (hs : SqL K H p xs) (h : Q (.ty "list") H) : rTyp K [.ref p] H Q := ⟨_, _, rfl, .lst hs, h⟩
theorem ty_T {p : Addr} {xs : List V} (hs : SqT K H p xs) (h : Q (.ty "tuple") H) : rTyp K [.ref p] H Q := ⟨_, _, rfl, .tup hs, h⟩
theorem ma_s {s : Str} (h : Q (.bl (Txt.isascii s)) H) : rM_isascii (.str s) [] H Q := ⟨s, rfl, rfl, True.intro, h⟩
theorem mp_s {s : Str} (h : Q (.bl (Txt.isprintable s)) H) : rM_isprintable (.str s) [] H Q := ⟨s, rfl, rfl, True.intro, h⟩
theorem mdg_s {s : Str} (h : Q (.bl (Txt.isdigit s)) H) : rM_isdigit (.str s) [] H Q := ⟨s, rfl, rfl, True.intro, h⟩
theorem mf_s {s u : Str} (h : Q (.int (Txt.find s u)) H) : rM_find (.str s) [.str u] H Q := ⟨s, u, rfl, rfl, h⟩
theorem al_b {p : Addr} {bs : List Bool} (hs : SqL K H p (bs.map V.bl)) (h : Q (.bl (bs.all id)) H) : rAll K [.ref p] H Q := ⟨p, bs, rfl, hs, h⟩
/-! statements -/
variable {n b k : St → Hp → Prop} {rt : VK} {p q s w : TS} {g : TG} {D : Ends}
theorem s_seq (h : p ⟨q ⟨n, rt, b, k⟩, rt, b, k⟩ σ H) : tSeq p q ⟨n, rt, b, k⟩ σ H := h
theorem s_asg (h : te σ H fun x H1 => g x σ H1 n) : tAsg te g ⟨n, rt, b, k⟩ σ H := h
theorem s_gn {i : Nat} {N : St → Hp → Prop} (h : N (σ.set i (some v)) H) : gName i v σ H N := h
theorem s_if (h : c σ H fun d H1 => if d = true then p D σ H1 else q D σ H1) : tIfS c p q D σ H := h
theorem s_ret (h : te σ H rt) : tRet te ⟨n, rt, b, k⟩ σ H := h
theorem s_retN (h : rt .non H) : tRetN ⟨n, rt, b, k⟩ σ H := h
theorem s_next (h : n σ H) : tNext ⟨n, rt, b, k⟩ σ H := h
theorem s_brk (h : b σ H) : tBreak ⟨n, rt, b, k⟩ σ H := h
theorem s_cont (h : k σ H) : tCont ⟨n, rt, b, k⟩ σ H := h
theorem s_drop (h : te σ H fun _ H1 => n σ H1) : tDrop te ⟨n, rt, b, k⟩ σ H := h
theorem s_par {i j : Nat} (h : tr σ H fun vs H1 => ∃ v w, vs = [v, w] ∧ n ((σ.set i (some v)).set j (some w)) H1) : tPar i j tr ⟨n, rt, b, k⟩ σ H := h
theorem s_par3 {i j l : Nat} (h : tr σ H fun vs H1 => ∃ u v w, vs = [u, v, w] ∧ n (((σ.set i (some u)).set j (some v)).set l (some w)) H1) : tPar3 i j l tr ⟨n, rt, b, k⟩ σ H := h
theorem x_gsub {to ti : TE} {t : TSet} {N : St → Hp → Prop} (h : to σ H fun o H1 => ti σ H1 fun i H2 => t o i v H2 fun H3 => N σ H3) : gSub to ti t v σ H N := h
theorem st_L {p : Addr} {xs : List V} {i : Int} {N : Hp → Prop} (hp : H p = some (.lst xs)) (h0 : 0 ≤ i) (h1 : i < (xs.length : Int)) (h : N (upd H p (.lst (xs.set i.toNat v)))) : rSetL (.ref p) (.int i) v H N := by
  refine ⟨p, xs, i, i.toNat, rfl, rfl, hp, ?_, h⟩
  unfold ixN
  rw [if_pos h0]
  first | rw [if_pos h1] | simp [h1]
theorem pop_L {p : Addr} {x : V} {xs : List V} (hp : H p = some (.lst (x :: xs))) (h : Q x (upd H p (.lst xs))) : rPOP (.ref p) [.int 0] H Q := by
  refine ⟨p, x :: xs, 0, 0, x, rfl, rfl, hp, by decide, by decide, ?_, rfl, h⟩
  simp [seqIndex?]
theorem w_while {c : TT} {tb : TS} (W : Nat → St → Hp → Prop) (m0 : Nat) (h0 : W m0 σ H) (hs : ∀ m σ H, W m σ H → c σ H fun d H1 => if d = true then ∃ N : St → Hp → Prop, (∀ σ' H', N σ' H' → ∃ m', m' < m ∧ W m' σ' H') ∧ tb ⟨N, rt, n, N⟩ σ H1 else n σ H1) : tWhile c tb ⟨n, rt, b, k⟩ σ H :=
  ⟨W, ⟨m0, h0⟩, hs⟩
/-! loops -/
def LoopW (J : It) (g : TG) (tb : TS) (n : St → Hp → Prop) (rt : VK) (σ : St) (H : Hp) : Prop := ∃ W : Nat → Nat → St → Hp → Prop, (∃ m, W 0 m σ H) ∧ ∀ i m σ H, W i m σ H →
  (J.stop i H ∧ n σ H) ∨ (J.go i H ∧ ∃ N : St → Hp → Prop, (∀ σ' H', N σ' H' → ∃ m', m' < m ∧ W (i + 1) m' σ' H') ∧ ∀ x H', J.yld i H x H' → g x σ H' fun σ2 H2 => tb ⟨N, rt, n, N⟩ σ2 H2)
def ForR1 (g : TG) (tb : TS) (n : St → Hp → Prop) (rt : VK) (σ : St) (vs : List V) (H : Hp) : Prop := ∃ j : Int, vs = [.int j] ∧ -(2 ^ 62) ≤ j ∧ j < 2 ^ 62 ∧ LoopW (Itr 0 j.toNat) g tb n rt σ H
def ForR2 (g : TG) (tb : TS) (n : St → Hp → Prop) (rt : VK) (σ : St) (vs : List V) (H : Hp) : Prop := ∃ i j : Int, vs = [.int i, .int j] ∧ (-(2 ^ 62) ≤ i ∧ i < 2 ^ 62 ∧ -(2 ^ 62) ≤ j ∧ j < 2 ^ 62) ∧ LoopW (Itr i (j - i).toNat) g tb n rt σ H
def ForL (K : PySem.W.Frag) (g : TG) (tb : TS) (n : St → Hp → Prop) (rt : VK) (σ : St) (x : V) (H : Hp) : Prop := ∃ a, x = .ref a ∧ (∃ xs, SqL K H a xs) ∧ LoopW (Itl K a) g tb n rt σ H
def ForT (K : PySem.W.Frag) (g : TG) (tb : TS) (n : St → Hp → Prop) (rt : VK) (σ : St) (x : V) (H : Hp) : Prop := ∃ a, x = .ref a ∧ (∃ xs, SqT K H a xs) ∧ LoopW (Itt K a) g tb n rt σ H
def ForS (g : TG) (tb : TS) (n : St → Hp → Prop) (rt : VK) (σ : St) (x : V) (H : Hp) : Prop := ∃ z, x = .str z ∧ LoopW (Its z) g tb n rt σ H
theorem f_r1 (h : tr σ H fun vs H1 => ForR1 g p n rt σ vs H1) : tFor (iRng1 tr) g p ⟨n, rt, b, k⟩ σ H := h
theorem f_r2 (h : tr σ H fun vs H1 => ForR2 g p n rt σ vs H1) : tFor (iRng2 tr) g p ⟨n, rt, b, k⟩ σ H := h
theorem f_l (h : te σ H fun x H1 => ForL K g p n rt σ x H1) : tFor (iList K te) g p ⟨n, rt, b, k⟩ σ H := h
theorem f_t (h : te σ H fun x H1 => ForT K g p n rt σ x H1) : tFor (iTup K te) g p ⟨n, rt, b, k⟩ σ H := h
theorem f_s (h : te σ H fun x H1 => ForS g p n rt σ x H1) : tFor (iStr te) g p ⟨n, rt, b, k⟩ σ H := h
theorem loopR {lo : Int} {m : Nat} (Pv : Nat → St → Hp → Prop) (h0 : Pv 0 σ H) (hs : ∀ i σ H, i < m → Pv i σ H → g (.int (lo + i)) σ H fun σ2 H2 => p ⟨Pv (i + 1), rt, n, Pv (i + 1)⟩ σ2 H2) (hd : ∀ σ H, Pv m σ H → n σ H) : LoopW (Itr lo m) g p n rt σ H := for_range (D := ⟨n, rt, n, n⟩) Pv h0 hs hd
theorem loopL {a : Addr} {xs : List V} (Pv : Nat → St → Hp → Prop) (h0 : Pv 0 σ H) (hl : ∀ i σ H, i ≤ xs.length → Pv i σ H → SqL K H a xs) (hs : ∀ i x σ H, xs[i]? = some x → Pv i σ H → g x σ H fun σ2 H2 => p ⟨Pv (i + 1), rt, n, Pv (i + 1)⟩ σ2 H2) (hd : ∀ σ H, Pv xs.length σ H → n σ H) : LoopW (Itl K a) g p n rt σ H := for_list (D := ⟨n, rt, n, n⟩) Pv h0 hl hs hd
theorem loopT {a : Addr} {xs : List V} (Pv : Nat → St → Hp → Prop) (h0 : Pv 0 σ H) (hl : ∀ i σ H, i ≤ xs.length → Pv i σ H → SqT K H a xs) (hs : ∀ i x σ H, xs[i]? = some x → Pv i σ H → g x σ H fun σ2 H2 => p ⟨Pv (i + 1), rt, n, Pv (i + 1)⟩ σ2 H2) (hd : ∀ σ H, Pv xs.length σ H → n σ H) : LoopW (Itt K a) g p n rt σ H := for_tup (D := ⟨n, rt, n, n⟩) Pv h0 hl hs hd
theorem for1_mk {j : Int} (hj : -(2 ^ 62) ≤ j) (hj2 : j < 2 ^ 62) (Pv : Nat → St → Hp → Prop) (h0 : Pv 0 σ H) (hs : ∀ (i : Nat) σ H, i < j.toNat → Pv i σ H → g (.int (i : Int)) σ H fun σ2 H2 => p ⟨Pv (i + 1), rt, n, Pv (i + 1)⟩ σ2 H2) (hd : ∀ σ H, Pv j.toNat σ H → n σ H) : ForR1 g p n rt σ [.int j] H :=
  ⟨j, rfl, hj, hj2, loopR Pv h0 (fun i σ H hi hp => by rw [Int.zero_add]; exact hs i σ H hi hp) hd⟩
theorem for2_mk {lo j : Int} (hj : -(2 ^ 62) ≤ lo ∧ lo < 2 ^ 62 ∧ -(2 ^ 62) ≤ j ∧ j < 2 ^ 62) (Pv : Nat → St → Hp → Prop) (h0 : Pv 0 σ H) (hs : ∀ (i : Nat) σ H, i < (j - lo).toNat → Pv i σ H → g (.int (lo + (i : Int))) σ H fun σ2 H2 => p ⟨Pv (i + 1), rt, n, Pv (i + 1)⟩ σ2 H2) (hd : ∀ σ H, Pv (j - lo).toNat σ H → n σ H) : ForR2 g p n rt σ [.int lo, .int j] H :=
  ⟨lo, j, rfl, hj, loopR Pv h0 hs hd⟩
theorem forL_mk {a : Addr} {xs : List V} (hx : SqL K H a xs) (Pv : Nat → St → Hp → Prop) (h0 : Pv 0 σ H) (hl : ∀ i σ H, i ≤ xs.length → Pv i σ H → SqL K H a xs) (hs : ∀ i x σ H, xs[i]? = some x → Pv i σ H → g x σ H fun σ2 H2 => p ⟨Pv (i + 1), rt, n, Pv (i + 1)⟩ σ2 H2) (hd : ∀ σ H, Pv xs.length σ H → n σ H) : ForL K g p n rt σ (.ref a) H := ⟨a, rfl, ⟨xs, hx⟩, loopL Pv h0 hl hs hd⟩
theorem forT_mk {a : Addr} {xs : List V} (hx : SqT K H a xs) (Pv : Nat → St → Hp → Prop) (h0 : Pv 0 σ H) (hl : ∀ i σ H, i ≤ xs.length → Pv i σ H → SqT K H a xs) (hs : ∀ i x σ H, xs[i]? = some x → Pv i σ H → g x σ H fun σ2 H2 => p ⟨Pv (i + 1), rt, n, Pv (i + 1)⟩ σ2 H2) (hd : ∀ σ H, Pv xs.length σ H → n σ H) : ForT K g p n rt σ (.ref a) H := ⟨a, rfl, ⟨xs, hx⟩, loopT Pv h0 hl hs hd⟩
/-! comprehensions -/
def LcW (J : It) (g : TG) (tt : TT) (te : TE) (vs : List Nat) (σ : St) (Q : VK) (H1 : Hp) : Prop := ∀ D, H1 D = none → ∃ W : Nat → Nat → Hp → Prop, (∃ m, W 0 m (upd H1 D (.lst []))) ∧ ∀ i m H, W i m H →
  (J.stop i H ∧ Q (.ref D) H) ∨ (J.go i H ∧ ∃ Nx : Hp → Prop, (∀ H', Nx H' → ∃ m', m' < m ∧ W (i + 1) m' H') ∧ ∀ x H', J.yld i H x H' → g x (wipe σ vs) H' fun σ2 H2 => wipe σ2 vs = wipe σ vs ∧ tt σ2 H2 fun b H3 =>
    if b = true then te σ2 H3 fun y H4 => ∃ acc, H4 D = some (.lst acc) ∧ acc.length < sizeLine ∧ Nx (upd H4 D (.lst (acc ++ [y]))) else Nx H3)
def LcR1 (g : TG) (tt : TT) (te : TE) (ws : List Nat) (σ : St) (Q : VK) (vs : List V) (H : Hp) : Prop := ∃ j : Int, vs = [.int j] ∧ -(2 ^ 62) ≤ j ∧ j < 2 ^ 62 ∧ LcW (Itr 0 j.toNat) g tt te ws σ Q H
def LcR2 (g : TG) (tt : TT) (te : TE) (ws : List Nat) (σ : St) (Q : VK) (vs : List V) (H : Hp) : Prop := ∃ i j : Int, vs = [.int i, .int j] ∧ (-(2 ^ 62) ≤ i ∧ i < 2 ^ 62 ∧ -(2 ^ 62) ≤ j ∧ j < 2 ^ 62) ∧ LcW (Itr i (j - i).toNat) g tt te ws σ Q H
def LcL (K : PySem.W.Frag) (g : TG) (tt : TT) (te : TE) (ws : List Nat) (σ : St) (Q : VK) (x : V) (H : Hp) : Prop := ∃ a, x = .ref a ∧ (∃ xs, SqL K H a xs) ∧ LcW (Itl K a) g tt te ws σ Q H
def LcT (K : PySem.W.Frag) (g : TG) (tt : TT) (te : TE) (ws : List Nat) (σ : St) (Q : VK) (x : V) (H : Hp) : Prop := ∃ a, x = .ref a ∧ (∃ xs, SqT K H a xs) ∧ LcW (Itt K a) g tt te ws σ Q H
def LcS (g : TG) (tt : TT) (te : TE) (ws : List Nat) (σ : St) (Q : VK) (x : V) (H : Hp) : Prop := ∃ z, x = .str z ∧ LcW (Its z) g tt te ws σ Q H
variable {ws : List Nat}
theorem c_r1 (h : tr σ H fun vs H1 => LcR1 g t te ws σ Q vs H1) : tLc (iRng1 tr) g t te ws σ H Q := h
theorem c_r2 (h : tr σ H fun vs H1 => LcR2 g t te ws σ Q vs H1) : tLc (iRng2 tr) g t te ws σ H Q := h
theorem c_l (h : ta σ H fun x H1 => LcL K g t te ws σ Q x H1) : tLc (iList K ta) g t te ws σ H Q := h
theorem c_t (h : ta σ H fun x H1 => LcT K g t te ws σ Q x H1) : tLc (iTup K ta) g t te ws σ H Q := h
theorem c_s (h : ta σ H fun x H1 => LcS g t te ws σ Q x H1) : tLc (iStr ta) g t te ws σ H Q := h
theorem lcR1_mk {j : Int} (hj : -(2 ^ 62) ≤ j) (hj2 : j < 2 ^ 62) (Pv : Addr → Nat → Hp → Prop) (h0 : ∀ D, H D = none → Pv D 0 (upd H D (.lst [])))
    (hs : ∀ D (i : Nat) H', H D = none → i < j.toNat → Pv D i H' → g (.int (i : Int)) (wipe σ ws) H' fun σ2 H2 => wipe σ2 ws = wipe σ ws ∧ t σ2 H2 fun b H3 => if b = true then te σ2 H3 fun y H4 => ∃ acc, H4 D = some (.lst acc) ∧ acc.length < sizeLine ∧ Pv D (i + 1) (upd H4 D (.lst (acc ++ [y]))) else Pv D (i + 1) H3)
    (hd : ∀ D H', H D = none → Pv D j.toNat H' → Q (.ref D) H') : LcR1 g t te ws σ Q [.int j] H :=
  ⟨j, rfl, hj, hj2, fun D hD => lc_range (lo := 0) (n := j.toNat) (Pv D) (h0 D hD) (fun i H hi hp => by rw [Int.zero_add]; exact hs D i H hD hi hp) (fun H' hp => hd D H' hD hp)⟩
theorem lcR2_mk {lo j : Int} (hj : -(2 ^ 62) ≤ lo ∧ lo < 2 ^ 62 ∧ -(2 ^ 62) ≤ j ∧ j < 2 ^ 62) (Pv : Addr → Nat → Hp → Prop) (h0 : ∀ D, H D = none → Pv D 0 (upd H D (.lst [])))
    (hs : ∀ D (i : Nat) H', H D = none → i < (j - lo).toNat → Pv D i H' → g (.int (lo + (i : Int))) (wipe σ ws) H' fun σ2 H2 => wipe σ2 ws = wipe σ ws ∧ t σ2 H2 fun b H3 => if b = true then te σ2 H3 fun y H4 => ∃ acc, H4 D = some (.lst acc) ∧ acc.length < sizeLine ∧ Pv D (i + 1) (upd H4 D (.lst (acc ++ [y]))) else Pv D (i + 1) H3)
    (hd : ∀ D H', H D = none → Pv D (j - lo).toNat H' → Q (.ref D) H') : LcR2 g t te ws σ Q [.int lo, .int j] H :=
  ⟨lo, j, rfl, hj, fun D hD => lc_range (lo := lo) (n := (j - lo).toNat) (Pv D) (h0 D hD) (fun i H hi hp => hs D i H hD hi hp) (fun H' hp => hd D H' hD hp)⟩
theorem lcL_mk {a : Addr} {xs : List V} (hx : SqL K H a xs) (Pv : Addr → Nat → Hp → Prop) (h0 : ∀ D, H D = none → Pv D 0 (upd H D (.lst []))) (hl : ∀ D i H', H D = none → i ≤ xs.length → Pv D i H' → SqL K H' a xs)
    (hs : ∀ D i x H', H D = none → xs[i]? = some x → Pv D i H' → g x (wipe σ ws) H' fun σ2 H2 => wipe σ2 ws = wipe σ ws ∧ t σ2 H2 fun b H3 => if b = true then te σ2 H3 fun y H4 => ∃ acc, H4 D = some (.lst acc) ∧ acc.length < sizeLine ∧ Pv D (i + 1) (upd H4 D (.lst (acc ++ [y]))) else Pv D (i + 1) H3)
    (hd : ∀ D H', H D = none → Pv D xs.length H' → Q (.ref D) H') : LcL K g t te ws σ Q (.ref a) H :=
  ⟨a, rfl, ⟨xs, hx⟩, fun D hD => lc_list (xs := xs) (Pv D) (h0 D hD) (fun i H hi hp => hl D i H hD hi hp) (fun i x H hi hp => hs D i x H hD hi hp) (fun H' hp => hd D H' hD hp)⟩
theorem lcT_mk {a : Addr} {xs : List V} (hx : SqT K H a xs) (Pv : Addr → Nat → Hp → Prop) (h0 : ∀ D, H D = none → Pv D 0 (upd H D (.lst []))) (hl : ∀ D i H', H D = none → i ≤ xs.length → Pv D i H' → SqT K H' a xs)
    (hs : ∀ D i x H', H D = none → xs[i]? = some x → Pv D i H' → g x (wipe σ ws) H' fun σ2 H2 => wipe σ2 ws = wipe σ ws ∧ t σ2 H2 fun b H3 => if b = true then te σ2 H3 fun y H4 => ∃ acc, H4 D = some (.lst acc) ∧ acc.length < sizeLine ∧ Pv D (i + 1) (upd H4 D (.lst (acc ++ [y]))) else Pv D (i + 1) H3)
    (hd : ∀ D H', H D = none → Pv D xs.length H' → Q (.ref D) H') : LcT K g t te ws σ Q (.ref a) H :=
  ⟨a, rfl, ⟨xs, hx⟩, fun D hD => lc_tup (xs := xs) (Pv D) (h0 D hD) (fun i H hi hp => hl D i H hD hi hp) (fun i x H hi hp => hs D i x H hD hi hp) (fun H' hp => hd D H' hD hp)⟩
theorem s_cut (M : St → Hp → Prop) (h : p ⟨M, rt, b, k⟩ σ H) (hq : ∀ σ' H', M σ' H' → q ⟨n, rt, b, k⟩ σ' H') : Evl.tCut p q ⟨n, rt, b, k⟩ σ H := ⟨M, h, hq⟩
theorem s_p2 {P : V → V → Prop} (h : P x y) : ∃ v w, [x, y] = [v, w] ∧ P v w := ⟨x, y, rfl, h⟩
theorem s_p3 {P : V → V → V → Prop} (h : P x y z) : ∃ u v w, [x, y, z] = [u, v, w] ∧ P u v w := ⟨x, y, z, rfl, h⟩
theorem iteTd {p : Prop} [Decidable p] {A B : Prop} (h : p) (q : A) : if decide p = true then A else B := by
  rw [decide_eq_true h]
  exact iteT q
theorem iteFd {p : Prop} [Decidable p] {A B : Prop} (h : ¬ p) (q : B) : if decide p = true then A else B := by
  rw [decide_eq_false h]
  exact iteF q
theorem iteNt {A B : Prop} (q : B) : if (!true) = true then A else B := iteF q
theorem iteNf {A B : Prop} (q : A) : if (!false) = true then A else B := iteT q
theorem iteNd {p : Prop} [Decidable p] {A B : Prop} (h : p) (q : B) : if (!decide p) = true then A else B := by
  rw [decide_eq_true h]
  exact iteF q
theorem iteNdF {p : Prop} [Decidable p] {A B : Prop} (h : ¬ p) (q : A) : if (!decide p) = true then A else B := by
  rw [decide_eq_false h]
  exact iteT q
theorem ite2' {c : Bool} {A B : Prop} (h1 : c = true → A) (h2 : c = false → B) : if c = true then A else B := by
  cases c with
  | true => exact h1 rfl
  | false => exact h2 rfl
end
end My

set_option Elab.async false
set_option linter.all false
set_option maxRecDepth 100000
set_option maxHeartbeats 400000
/-! ### texts as lists of codes; heaps -/
namespace My
open PySem PySem.Spec PyProof.Rows L2
abbrev S (l : List Nat) : Str := SX.S l
theorem S_cps (l : List Nat) : (S l).cps.toList = l := rfl
theorem S_len (l : List Nat) : (S l).length = l.length := SX.S_len l
theorem S_eta (z : Str) : z = S z.cps.toList := by
  rcases z with ⟨⟨l⟩⟩
  rfl
theorem S_app (a b : List Nat) : S a ++ S b = S (a ++ b) := by
  show (⟨a.toArray ++ b.toArray⟩ : Str) = ⟨(a ++ b).toArray⟩
  simp
theorem S_inj {a b : List Nat} (h : S a = S b) : a = b := congrArg (fun z : Str => z.cps.toList) h
theorem S_eq (a b : List Nat) : decide (S a = S b) = decide (a = b) := by
  by_cases h : a = b
  · subst h; simp
  · have h2 : ¬ S a = S b := fun e => h (S_inj e)
    rw [decide_eq_false h, decide_eq_false h2]
theorem S_one (c : Nat) : (⟨#[c]⟩ : Str) = S [c] := rfl
/-! slices -/
theorem cut_from (l : List Nat) (a : Nat) : cutS (S l) (some (a : Int)) none = S (l.drop a) := by
  unfold cutS
  rw [S_len, HT.sIx_nat, HT.sIx_none, S_cps]
  apply congrArg S
  rcases Nat.le_total a l.length with h | h
  · rw [Nat.min_eq_left h]
    exact List.take_of_length_le (by rw [List.length_drop]; exact Nat.le_refl _)
  · rw [Nat.min_eq_right h, List.drop_eq_nil_of_le h]
    simp
theorem cut_to (l : List Nat) (b : Nat) : cutS (S l) none (some (b : Int)) = S (l.take b) := by
  unfold cutS
  rw [S_len, HT.sIx_nat, HT.sIx_none, S_cps]
  apply congrArg S
  rw [List.drop_zero, Nat.sub_zero]
  rcases Nat.le_total b l.length with h | h
  · rw [Nat.min_eq_left h]
  · rw [Nat.min_eq_right h, List.take_of_length_le (Nat.le_refl _), List.take_of_length_le h]
theorem cut_mid (l : List Nat) (a b : Nat) : cutS (S l) (some (a : Int)) (some (b : Int)) = S ((l.take b).drop a) := by
  unfold cutS
  rw [S_len, HT.sIx_nat, HT.sIx_nat, S_cps]
  apply congrArg S
  rw [List.drop_take]
  rcases Nat.le_total a l.length with h | h
  · rw [Nat.min_eq_left h]
    rcases Nat.le_total b l.length with h2 | h2
    · rw [Nat.min_eq_left h2]
    · rw [Nat.min_eq_right h2, List.take_of_length_le (by rw [List.length_drop]; exact Nat.le_refl _), List.take_of_length_le (by rw [List.length_drop]; omega)]
  · rw [Nat.min_eq_right h, List.drop_eq_nil_of_le h]
    simp
theorem cut_fromI (l : List Nat) {a : Int} (h : 0 ≤ a) : cutS (S l) (some a) none = S (l.drop a.toNat) := by
  have e := cut_from l a.toNat
  rwa [Int.toNat_of_nonneg h] at e
theorem cut_toI (l : List Nat) {a : Int} (h : 0 ≤ a) : cutS (S l) none (some a) = S (l.take a.toNat) := by
  have e := cut_to l a.toNat
  rwa [Int.toNat_of_nonneg h] at e
theorem cut_midI (l : List Nat) {a b : Int} (h : 0 ≤ a) (h2 : 0 ≤ b) : cutS (S l) (some a) (some b) = S ((l.take b.toNat).drop a.toNat) := by
  have e := cut_mid l a.toNat b.toNat
  rwa [Int.toNat_of_nonneg h, Int.toNat_of_nonneg h2] at e
theorem repS_S (l : List Nat) (k : Int) : repS (S l) k = S (List.replicate k.toNat l).flatten := rfl
theorem join_S (ys : List (List Nat)) : Txt.join (S []) (ys.map S) = S ys.flatten := by
  rw [SX.join_S]
  apply congrArg S
  induction ys with
  | nil => rfl
  | cons y ys ih =>
    cases ys with
    | nil => simp [TL.joinL]
    | cons z zs =>
      have e : TL.joinL [] (y :: z :: zs) = y ++ ([] ++ TL.joinL [] (z :: zs)) := by first | rfl | simp [TL.joinL]
      rw [e, ih]
      rfl
/-! an item at a place -/
theorem at_nat {α : Type} {xs : List α} {i : Int} {v : α} (h0 : 0 ≤ i) (h : xs[i.toNat]? = some v) : atI xs i = some v := by
  have e := atI_nat h
  rwa [Int.toNat_of_nonneg h0] at e
theorem at_in {α : Type} {xs : List α} {i : Int} (h0 : 0 ≤ i) (h : i < (xs.length : Int)) : atI xs i = some (xs[i.toNat]'(by omega)) := at_nat h0 (List.getElem?_eq_getElem (by omega))
/-! leaves over S -/
section
variable {K : PySem.W.Frag} {H : Hp} {Q : VK} {l m : List Nat} {a b : Int}
theorem big_line {n : Nat} (h : n ≤ 1000000) : n ≤ sizeLine := Nat.le_trans h (by decide)
theorem sl_to (ha : 0 ≤ a) (hl : l.length ≤ 1000000) (q : Q (.str (S (l.take a.toNat))) H) : rSL K (.str (S l)) none (some a) H Q := sl_S (by rw [S_len]; exact big_line hl) (by rw [cut_toI l ha]; exact q)
theorem sl_from (ha : 0 ≤ a) (hl : l.length ≤ 1000000) (q : Q (.str (S (l.drop a.toNat))) H) : rSL K (.str (S l)) (some a) none H Q := sl_S (by rw [S_len]; exact big_line hl) (by rw [cut_fromI l ha]; exact q)
theorem sl_mid (ha : 0 ≤ a) (hb : 0 ≤ b) (hl : l.length ≤ 1000000) (q : Q (.str (S ((l.take b.toNat).drop a.toNat))) H) : rSL K (.str (S l)) (some a) (some b) H Q := sl_S (by rw [S_len]; exact big_line hl) (by rw [cut_midI l ha hb]; exact q)
theorem a_SS (hl : l.length + m.length ≤ 1000000) (q : Q (.str (S (l ++ m))) H) : rADD K (.str (S l)) (.str (S m)) H Q := a_ss (by rw [S_len, S_len]; exact big_line hl) (by rw [S_app]; exact q)
theorem ln_S (hl : l.length ≤ 1000000) (q : Q (.int l.length) H) : rLEN K [.str (S l)] H Q := ln_s (by rw [S_len]; exact big_line hl) (by rw [S_len]; exact q)
theorem ix_SS (h0 : 0 ≤ a) (h1 : a < (l.length : Int)) (hl : l.length ≤ 1000000) (q : ∀ c, l[a.toNat]? = some c → Q (.str (S [c])) H) : rIX K (.str (S l)) (.int a) H Q :=
  ix_S (by rw [S_len]; exact big_line hl) (at_in h0 h1) (q _ (List.getElem?_eq_getElem (by omega)))
theorem e_SS (q : Q (.bl (decide (l = m))) H) : rEQ K (.str (S l)) (.str (S m)) H Q := e_ss (by rw [S_eq]; exact q)
theorem ne_SS (q : Q (.bl (!decide (l = m))) H) : rNE K (.str (S l)) (.str (S m)) H Q := ne_ss (by rw [S_eq]; exact q)
theorem m_SI (h1 : a < 2 ^ 40) (h0 : 0 ≤ a) (hl : l.length * a.toNat ≤ 1000000) (q : Q (.str (S (List.replicate a.toNat l).flatten)) H) : rMUL K (.str (S l)) (.int a) H Q := m_si (by omega) (by omega) (by rw [S_len]; exact big_line hl) q
theorem jn_0 {p : Addr} {ys : List (List Nat)} (hp : SqL K H p ((ys.map S).map V.str)) (hl : ys.flatten.length ≤ 1000000) (q : Q (.str (S ys.flatten)) H) : rJoin K (.str (S [])) [.ref p] H Q := by
  refine ⟨S [], p, ys.map S, rfl, rfl, .inl hp, ?_, by rw [join_S]; exact q⟩
  have e : ((ys.map S).map (·.length)).sum = ys.flatten.length := by
    rw [List.length_flatten, List.map_map]
    apply congrArg List.sum
    exact List.map_congr_left fun l _ => S_len l
  rw [e, S_len]
  exact Nat.le_trans (by simpa using hl) (by decide)
end
/-! printing ASCII -/
def isT (l : List Nat) : Bool := l.all fun c => decide (32 ≤ c) && decide (c ≤ 126)
theorem printable_lt {c : Nat} (h : c < 128) : Unicode.isPrintable c = (decide (32 ≤ c) && decide (c ≤ 126)) := by
  have h2 : ∀ c : _root_.Fin 128, Unicode.isPrintable c.val = (decide (32 ≤ c.val) && decide (c.val ≤ 126)) := by decide +kernel
  exact h2 ⟨c, h⟩
theorem digit_lt {c : Nat} (h : c < 128) : Unicode.isDigit c = (decide (48 ≤ c) && decide (c ≤ 57)) := by
  have h2 : ∀ c : _root_.Fin 128, Unicode.isDigit c.val = (decide (48 ≤ c.val) && decide (c.val ≤ 57)) := by decide +kernel
  exact h2 ⟨c, h⟩
theorem is_text_eq (l : List Nat) : (Txt.isascii (S l) && Txt.isprintable (S l)) = isT l := by
  unfold Txt.isascii Txt.isprintable isT
  rw [← Array.all_toList, ← Array.all_toList, S_cps]
  induction l with
  | nil => rfl
  | cons c l ih =>
    simp only [List.all_cons]
    rw [← ih]
    by_cases h : c < 128
    · rw [printable_lt h, decide_eq_true h]
      cases (decide (32 ≤ c) && decide (c ≤ 126)) <;> cases (l.all fun x => decide (x < 128)) <;> cases (l.all Unicode.isPrintable) <;> rfl
    · rw [decide_eq_false h]
      have h2 : (decide (32 ≤ c) && decide (c ≤ 126)) = false := by
        rw [decide_eq_false (show ¬ c ≤ 126 by omega), Bool.and_false]
      rw [h2]
      rfl
def isD (l : List Nat) : Bool := l.all fun c => decide (48 ≤ c) && decide (c ≤ 57)
theorem isT_mem {l : List Nat} (h : isT l = true) {c : Nat} (hc : c ∈ l) : 32 ≤ c ∧ c ≤ 126 := by
  have z := List.all_eq_true.mp h c hc
  rw [Bool.and_eq_true, decide_eq_true_eq, decide_eq_true_eq] at z
  exact z
theorem isT_of {l : List Nat} (h : ∀ c ∈ l, 32 ≤ c ∧ c ≤ 126) : isT l = true := List.all_eq_true.mpr fun c hc => by
  rw [Bool.and_eq_true, decide_eq_true_eq, decide_eq_true_eq]
  exact h c hc
theorem isT_app {a b : List Nat} : isT (a ++ b) = (isT a && isT b) := List.all_append
theorem isT_take {a : List Nat} (n : Nat) (h : isT a = true) : isT (a.take n) = true := isT_of fun _ hc => isT_mem h (List.mem_of_mem_take hc)
theorem isT_drop {a : List Nat} (n : Nat) (h : isT a = true) : isT (a.drop n) = true := isT_of fun _ hc => isT_mem h (List.mem_of_mem_drop hc)
theorem isdigit_eq {l : List Nat} (h : isT l = true) : Txt.isdigit (S l) = (decide (l ≠ []) && isD l) := by
  unfold Txt.isdigit isD
  rw [← Array.all_toList, S_cps, S_len]
  have e : l.all Unicode.isDigit = l.all fun c => decide (48 ≤ c) && decide (c ≤ 57) := by
    rw [Bool.eq_iff_iff, List.all_eq_true, List.all_eq_true]
    constructor
    · intro z c hc
      rw [← digit_lt (by have := isT_mem h hc; omega)]
      exact z c hc
    · intro z c hc
      rw [digit_lt (by have := isT_mem h hc; omega)]
      exact z c hc
  rw [e]
  cases l with
  | nil => rfl
  | cons c l => simp
/-! lists of texts, of numbers -/
def TxtAll (n : Nat) (xs : List V) : Prop := ∀ x ∈ xs, ∃ l : List Nat, l.length ≤ n ∧ isT l = true ∧ x = V.str (S l)
theorem txt_nil {n : Nat} : TxtAll n [] := fun _ h => by cases h
theorem txt_cons {n : Nat} {l : List Nat} {xs : List V} (h1 : l.length ≤ n) (h2 : isT l = true) (h : TxtAll n xs) : TxtAll n (.str (S l) :: xs) := fun x hx => by
  rcases List.mem_cons.mp hx with rfl | hx
  · exact ⟨l, h1, h2, rfl⟩
  · exact h x hx
theorem txt_app {n : Nat} {xs ys : List V} (h1 : TxtAll n xs) (h2 : TxtAll n ys) : TxtAll n (xs ++ ys) := fun x hx => (List.mem_append.mp hx).elim (h1 x) (h2 x)
theorem ix_txt {K : PySem.W.Frag} {H : Hp} {Q : VK} {p : Addr} {zs : List V} {n : Nat} {i : Int} (hp : SqL K H p zs) (ha : TxtAll n zs) (h0 : 0 ≤ i) (h1 : i < (zs.length : Int)) (q : ∀ l : List Nat, l.length ≤ n → isT l = true → Q (.str (S l)) H) : rIX K (.ref p) (.int i) H Q := by
  refine ix_L hp (at_in h0 h1) ?_
  have hi : i.toNat < zs.length := by omega
  obtain ⟨l, a, b, e⟩ := ha zs[i.toNat] (List.getElem_mem hi)
  rw [e]
  exact q l a b
def IntAll (n : Nat) (xs : List V) : Prop := ∀ x ∈ xs, ∃ z : Nat, z < n ∧ x = V.int z
theorem int_nil {n : Nat} : IntAll n [] := fun _ h => by cases h
theorem int_cons {n : Nat} {i : Int} {xs : List V} (h0 : 0 ≤ i) (h1 : i < (n : Int)) (h : IntAll n xs) : IntAll n (.int i :: xs) := fun x hx => by
  rcases List.mem_cons.mp hx with rfl | hx
  · exact ⟨i.toNat, by omega, by rw [Int.toNat_of_nonneg h0]⟩
  · exact h x hx
theorem ix_int {K : PySem.W.Frag} {H : Hp} {Q : VK} {p : Addr} {zs : List V} {n : Nat} {i : Int} (hp : SqL K H p zs) (ha : IntAll n zs) (h0 : 0 ≤ i) (h1 : i < (zs.length : Int)) (q : ∀ z : Nat, z < n → Q (.int z) H) : rIX K (.ref p) (.int i) H Q := by
  refine ix_L hp (at_in h0 h1) ?_
  have hi : i.toNat < zs.length := by omega
  obtain ⟨z, a, e⟩ := ha zs[i.toNat] (List.getElem_mem hi)
  rw [e]
  exact q z a
def IntP (F : Nat → Prop) (xs : List V) : Prop := ∀ x ∈ xs, ∃ z : Nat, F z ∧ x = V.int z
theorem intp_nil {F : Nat → Prop} : IntP F [] := fun _ h => by cases h
theorem intp_cons {F : Nat → Prop} {i : Int} {xs : List V} (h0 : 0 ≤ i) (h1 : F i.toNat) (h : IntP F xs) : IntP F (.int i :: xs) := fun x hx => by
  rcases List.mem_cons.mp hx with rfl | hx
  · exact ⟨i.toNat, h1, by rw [Int.toNat_of_nonneg h0]⟩
  · exact h x hx
theorem ix_intp {K : PySem.W.Frag} {H : Hp} {Q : VK} {p : Addr} {zs : List V} {F : Nat → Prop} {i : Int} (hp : SqL K H p zs) (ha : IntP F zs) (h0 : 0 ≤ i) (h1 : i < (zs.length : Int)) (q : ∀ z : Nat, F z → Q (.int z) H) : rIX K (.ref p) (.int i) H Q := by
  refine ix_L hp (at_in h0 h1) ?_
  have hi : i.toNat < zs.length := by omega
  obtain ⟨z, a, e⟩ := ha zs[i.toNat] (List.getElem_mem hi)
  rw [e]
  exact q z a
/-! heaps -/
theorem same_upd {H : Hp} {p : Addr} {o : HO} (h : H p = none) : Same H (upd H p o) := fun b x e => by
  rw [upd_ne (ne_of_none e h)]
  exact e
theorem same_mut {R H : Hp} {p : Addr} {o : HO} (e : Same R H) (h : R p = none) : Same R (upd H p o) := fun a u ha => by
  rw [upd_ne (ne_of_none ha h)]
  exact e a u ha
theorem same_sqt {K : PySem.W.Frag} {H H' : Hp} {a : Addr} {xs : List V} (e : Same H H') (h : SqT K H a xs) : SqT K H' a xs := by
  rcases h with (h | ⟨o, h⟩) | h
  · exact .inl (.inl (e _ _ h))
  · exact .inl (.inr ⟨o, e _ _ h⟩)
  · exact .inr h
theorem same_new {R H : Hp} {p : Addr} {o : HO} (e : Same R H) (h : H p = none) : Same R (upd H p o) := e.trans (same_upd h)
theorem lst_of {K : PySem.W.Frag} {H : Hp} {a : Addr} {xs : List V} (h : H a = some (.lst xs)) : SqL K H a xs := .inl (.inl h)
theorem tup_of {K : PySem.W.Frag} {H : Hp} {a : Addr} {xs : List V} (h : H a = some (.tup xs)) : SqT K H a xs := .inl (.inl h)
mutual
theorem dp_mono {K : PySem.W.Frag} {H H' : Hp} (e : Same H H') : ∀ (d : PyData) (v : V), Dp K H v d → Dp K H' v d
  | _, _, .non => .non
  | _, _, .bl b => .bl b
  | _, _, .int i => .int i
  | _, _, .str x => .str x
  | .list ds, _, .lst h a => .lst (e.seq h) (dpAll_mono e ds _ a)
  | .tuple ds, _, .tup h a => .tup (same_sqt e h) (dpAll_mono e ds _ a)
theorem dpAll_mono {K : PySem.W.Frag} {H H' : Hp} (e : Same H H') : ∀ (ds : List PyData) (vs : List V), DpAll K H vs ds → DpAll K H' vs ds
  | _, _, .nil => .nil
  | d :: ds, v :: vs, .cons h t => .cons (dp_mono e d v h) (dpAll_mono e ds vs t)
end
theorem ne_new {H : Hp} {a p : Addr} {o : HO} (h : H a = some o) (hp : H p = none) : p ≠ a := fun e => by
  subst e
  rw [hp] at h
  cases h
end My

set_option Elab.async false
set_option linter.all false
set_option maxRecDepth 100000
set_option maxHeartbeats 400000
/-! ### data; isinstance; a comprehension over a range with a step -/
namespace My
open PySem PySem.Spec PyProof.Rows L2
def tyName : PyData → String
  | .none => "NoneType"
  | .bool _ => "bool"
  | .int _ => "int"
  | .str _ => "str"
  | .list _ => "list"
  | .tuple _ => "tuple"
  | .dict _ => "dict"
theorem tyx_l {K : PySem.W.Frag} {H : Hp} {a : Addr} {xs : List V} (h : SqL K H a xs) : TyX K H (.ref a) (.type "list") := by
  rcases h with (h | ⟨o, h⟩) | h
  · exact .base (.lst h)
  · exact .base (.frz h)
  · obtain ⟨o, its, n, h1, h2, _⟩ := h
    exact .kList h1 h2
theorem tyx_t {K : PySem.W.Frag} {H : Hp} {a : Addr} {xs : List V} (h : SqT K H a xs) : TyX K H (.ref a) (.type "tuple") := by
  rcases h with (h | ⟨o, h⟩) | h
  · exact .base (.tup h)
  · exact .fTuple h
  · obtain ⟨o, its, n, h1, h2, _⟩ := h
    exact .kTuple h1 h2
theorem tyx_d {K : PySem.W.Frag} {H : Hp} {x : V} {d : PyData} (h : Dp K H x d) : TyX K H x (.type (tyName d)) := by
  cases h with
  | non => exact .base .non
  | bl b => exact .base (.bl b)
  | int i => exact .base (.int i)
  | str z => exact .base (.str z)
  | lst h _ => exact tyx_l h
  | tup h _ => exact tyx_t h
section
variable {K : PySem.W.Frag} {H : Hp} {Q : VK} {x : V} {d : PyData}
theorem isi_d {n : String} {b : Bool} (h : Dp K H x d) (hb : kitB (tyName d) n = some b) (q : Q (.bl b) H) : rISI K [x, .ty n] H Q :=
  .inl ⟨x, .ty n, _, _, b, rfl, .ty n, tyx_d h, kit_ty hb, q⟩
theorem isi_d2 {n m : String} {p : Addr} {b : Bool} (h : Dp K H x d) (hp : H p = some (.tup [.ty n, .ty m])) {b1 b2 : Bool} (h1 : kitB (tyName d) n = some b1) (h2 : kitB (tyName d) m = some b2) (hb : b = (b1 || b2)) (q : Q (.bl b) H) : rISI K [x, .ref p] H Q := by
  refine .inr ⟨x, p, _, _, [.type n, .type m], b, rfl, hp, .cons (.ty n) (.cons (.ty m) .nil), tyx_d h, ?_, q⟩
  subst hb
  refine kitAny_cons (kit_ty h1) (fun e => ?_) (fun e => by rw [e]; rfl)
  rw [e, Bool.false_or]
  exact kitAny_cons (kit_ty h2) (fun e => by rw [e]; exact kitAny_nil) (fun e => e)
/-- the six answers of isinstance and is None -/
def kindsB (d : PyData) : List Bool := match d with
  | .none => [false, false, false, false, false, true]
  | .bool _ => [true, true, false, false, false, false]
  | .int _ => [false, true, false, false, false, false]
  | .str _ => [false, false, true, false, false, false]
  | .list _ => [false, false, false, false, true, false]
  | .tuple _ => [false, false, false, true, false, false]
  | .dict _ => []
/-- a list of booleans as data -/
theorem dp_bools {p : Addr} (bs : List Bool) (h : SqL K H p (bs.map V.bl)) : Dp K H (.ref p) (.list (bs.map PyData.bool)) := by
  refine .lst h ?_
  induction bs with
  | nil => exact .nil
  | cons b bs ih =>
    have ih' : DpAll K H (bs.map V.bl) (bs.map PyData.bool) := by
      clear ih h
      induction bs with
      | nil => exact .nil
      | cons c cs ih => exact .cons (.bl c) ih
    exact .cons (.bl b) ih'
theorem eqv_same {d : PyData} (h : SeqAt.shaped d = true) : PyData.eqv d d = true := by
  unfold SeqAt.shaped at h
  rw [Bool.and_eq_true] at h
  exact SeqAt.eqv_refl d h.1
theorem dpAll_get : ∀ {vs : List V} {ds : List PyData}, DpAll K H vs ds → ∀ {i : Nat} (hi : i < ds.length), ∃ v, vs[i]? = some v ∧ Dp K H v ds[i]
  | _, _, .nil, i, hi => absurd hi (Nat.not_lt_zero _)
  | _, _, .cons a b, 0, hi => ⟨_, rfl, a⟩
  | _, _, .cons a b, i + 1, hi => dpAll_get b (Nat.lt_of_succ_lt_succ hi)
theorem dpAll_len : ∀ {vs : List V} {ds : List PyData}, DpAll K H vs ds → vs.length = ds.length
  | _, _, .nil => rfl
  | _, _, .cons a b => by rw [List.length_cons, List.length_cons, dpAll_len b]
end
/-- a comprehension over range(a, b, c) -/
theorem lc_rangeC {lo c : Int} {n : Nat} {g : TG} {tt : TT} {te : TE} {vs : List Nat} {σ : L2.St} {H1 : Hp} {D : Addr} {Qd : Hp → Prop} (Pv : Nat → Hp → Prop) (h0 : Pv 0 (upd H1 D (.lst [])))
    (hs : ∀ i H, i < n → Pv i H → g (.int (lo + (i : Nat) * c)) (wipe σ vs) H fun σ2 H2 => wipe σ2 vs = wipe σ vs ∧ tt σ2 H2 fun b H3 =>
      if b = true then te σ2 H3 fun y H4 => ∃ acc, H4 D = some (.lst acc) ∧ acc.length < sizeLine ∧ Pv (i + 1) (upd H4 D (.lst (acc ++ [y]))) else Pv (i + 1) H3) (hd : ∀ H, Pv n H → Qd H) :
    ∃ W : Nat → Nat → Hp → Prop, (∃ m, W 0 m (upd H1 D (.lst []))) ∧ ∀ i m H, W i m H →
      ((Itc lo c n).stop i H ∧ Qd H) ∨ ((Itc lo c n).go i H ∧ ∃ Nx : Hp → Prop, (∀ H', Nx H' → ∃ m', m' < m ∧ W (i + 1) m' H') ∧ ∀ x H', (Itc lo c n).yld i H x H' → g x (wipe σ vs) H' fun σ2 H2 => wipe σ2 vs = wipe σ vs ∧ tt σ2 H2 fun b H3 =>
        if b = true then te σ2 H3 fun y H4 => ∃ acc, H4 D = some (.lst acc) ∧ acc.length < sizeLine ∧ Nx (upd H4 D (.lst (acc ++ [y]))) else Nx H3) := by
  refine ⟨fun i m H => m = n - i ∧ i ≤ n ∧ Pv i H, ⟨n, by simp, Nat.zero_le _, h0⟩, ?_⟩
  rintro i m H ⟨rfl, hi, p⟩
  by_cases hlt : i < n
  · refine .inr ⟨hlt, Pv (i + 1), fun H' p' => ⟨n - (i + 1), by omega, rfl, hlt, p'⟩, fun x H' y => ?_⟩
    obtain ⟨rfl, rfl⟩ := y
    exact hs i _ hlt p
  · have e : i = n := by omega
    subst e
    exact .inl ⟨Nat.le_refl _, hd H p⟩
theorem rsize_pos {m f : Nat} (h1 : 1 ≤ m) (hf : 1 ≤ f) : Builtin.Range.rangeSize 0 (m : Int) (f : Int) = (((m - 1) / f + 1 : Nat) : Int) := by
  unfold Builtin.Range.rangeSize
  rw [if_pos (by omega), if_pos (by omega), Int.sub_zero, show (m : Int) - 1 = ((m - 1 : Nat) : Int) by omega]
  rfl
theorem small_pos {m f : Nat} (h1 : 1 ≤ m) (h2 : m ≤ 1000000) (hf : 1 ≤ f) (hf2 : f ≤ 1000000) : Builtin.Range.small 0 (m : Int) (f : Int) = true := by
  unfold Builtin.Range.small
  rw [rsize_pos h1 hf]
  simp only [Builtin.Range.rangeFitsLong, Bool.and_eq_true, Bool.or_eq_true, decide_eq_true_eq, beq_iff_eq, show ((f : Int) > 0) by omega, if_true]
  have h3 := Nat.div_le_self (m - 1) f
  generalize (m - 1) / f = q at *
  omega
/-! one sign in figures -/
theorem lit_figs : ("0123456789" : Str) = S [48, 49, 50, 51, 52, 53, 54, 55, 56, 57] := rfl
theorem find_fig (c : Nat) : Txt.find (S [48, 49, 50, 51, 52, 53, 54, 55, 56, 57]) (S [c]) = if 48 ≤ c ∧ c ≤ 57 then ((c - 48 : Nat) : Int) else -1 := by
  by_cases h : 48 ≤ c ∧ c ≤ 57
  · rw [if_pos h]
    have h2 : ∀ k : _root_.Fin 10, Txt.find (S [48, 49, 50, 51, 52, 53, 54, 55, 56, 57]) (S [48 + k.val]) = (k.val : Int) := by decide +kernel
    have e := h2 ⟨c - 48, by omega⟩
    rw [show 48 + (c - 48) = c by omega] at e
    exact e
  · rw [if_neg h]
    have e := SX.in_one [48, 49, 50, 51, 52, 53, 54, 55, 56, 57] c
    have h3 : decide (c ∈ [48, 49, 50, 51, 52, 53, 54, 55, 56, 57]) = false := decide_eq_false fun hm => h (by
      simp only [List.mem_cons, List.not_mem_nil, or_false] at hm
      omega)
    rw [h3, Bool.not_eq_false'] at e
    unfold Txt.find
    rw [List.isEmpty_iff] at e
    show (match Builtin.Str.occurrences (SX.S _) (SX.S [c]) 0 (SX.S _).length 1 with | i :: _ => (i : Int) | [] => -1) = -1
    rw [e]
/-! figures of a number -/
def figs : Nat → Nat → List Nat
  | 0, _ => []
  | w + 1, n => figs w (n / 10) ++ [48 + n % 10]
theorem figs_len : ∀ w n, (figs w n).length = w
  | 0, _ => rfl
  | w + 1, n => by rw [figs, List.length_append, figs_len w]; rfl
theorem digitChar_nat {n : Nat} (h : n < 10) : n.digitChar.toNat = 48 + n := by
  have h2 : ∀ k : _root_.Fin 10, k.val.digitChar.toNat = 48 + k.val := by decide
  exact h2 ⟨n, h⟩
theorem toDigits_len10 {w n : Nat} (h : n < 10 ^ w) (hw : 0 < w) : (Nat.toDigits 10 n).length ≤ w := by
  have h1 := (Nat.length_repr_le_iff (n := n) (k := w) hw).mpr h
  rwa [← String.length_toList, Nat.toList_repr] at h1
def pad (w n : Nat) : List Nat := List.replicate (w - (Nat.toDigits 10 n).length) 48 ++ (Nat.toDigits 10 n).map Char.toNat
theorem zpad_S (w n : Nat) : zpad w (n : Int) = S (pad w n) := rfl
theorem figs_zero : ∀ w, figs w 0 = List.replicate w 48
  | 0 => rfl
  | w + 1 => by
    rw [figs, Nat.zero_div, Nat.zero_mod, figs_zero w, List.replicate_succ']
theorem pad_figs : ∀ (w n : Nat), n < 10 ^ w → 0 < w → pad w n = figs w n
  | 0, _, _, h => absurd h (Nat.lt_irrefl _)
  | w + 1, n, h, _ => by
    by_cases hn : n < 10
    · unfold pad
      rw [Nat.toDigits_of_lt_base hn]
      show List.replicate (w + 1 - 1) 48 ++ [n.digitChar.toNat] = figs (w + 1) n
      rw [figs, digitChar_nat hn, Nat.div_eq_of_lt hn, Nat.mod_eq_of_lt hn, figs_zero]
      rfl
    · have hw : 0 < w := by
        rcases Nat.eq_zero_or_pos w with e | e
        · subst e
          simp at h
          omega
        · exact e
      have h2 : n / 10 < 10 ^ w := by
        rw [Nat.div_lt_iff_lt_mul (by decide)]
        rwa [Nat.pow_succ] at h
      have ih := pad_figs w (n / 10) h2 hw
      have hl := toDigits_len10 h2 hw
      rw [figs, ← ih]
      unfold pad
      rw [Nat.toDigits_of_base_le (by decide) (by omega), List.length_append, List.map_append, ← List.append_assoc]
      show List.replicate (w + 1 - ((Nat.toDigits 10 (n / 10)).length + 1)) 48 ++ _ ++ [(n % 10).digitChar.toNat] = _
      rw [digitChar_nat (Nat.mod_lt _ (by decide)), show w + 1 - ((Nat.toDigits 10 (n / 10)).length + 1) = w - (Nat.toDigits 10 (n / 10)).length by omega]
theorem figs_isD : ∀ w n, isD (figs w n) = true
  | 0, _ => rfl
  | w + 1, n => by
    show List.all (figs (w + 1) n) _ = true
    rw [figs, List.all_append]
    have e : (figs w (n / 10)).all (fun c => decide (48 ≤ c) && decide (c ≤ 57)) = true := figs_isD w (n / 10)
    rw [e, Bool.true_and]
    have := Nat.mod_lt n (show 10 > 0 by decide)
    simp
    omega
theorem digitsVal_snoc (a : List Nat) (c : Nat) : NumText.digitsVal (a ++ [c]) = NumText.digitsVal a * 10 + (c - 48) := by
  unfold NumText.digitsVal
  rw [List.foldl_append]
  rfl
theorem digitsVal_figs : ∀ w n, n < 10 ^ w → NumText.digitsVal (figs w n) = n
  | 0, n, h => by
    have : n = 0 := by simpa using h
    subst this
    rfl
  | w + 1, n, h => by
    rw [figs, digitsVal_snoc, digitsVal_figs w (n / 10) (by rw [Nat.div_lt_iff_lt_mul (by decide)]; rwa [Nat.pow_succ] at h)]
    omega
theorem isD_isT {l : List Nat} (h : isD l = true) : isT l = true := isT_of fun c hc => by
  have z := List.all_eq_true.mp h c hc
  rw [Bool.and_eq_true, decide_eq_true_eq, decide_eq_true_eq] at z
  omega
end My

set_option Elab.async false
set_option linter.all false
set_option maxRecDepth 100000
set_option maxHeartbeats 400000
/-! ### the greatest, with one for none; noughts ahead -/
namespace My
open PySem PySem.Spec PyProof.Rows L2
theorem maxOf_int (x : Int) : ∀ xs : List Int, PySem.W.maxOf x xs ∈ x :: xs ∧ ∀ y ∈ x :: xs, y ≤ PySem.W.maxOf x xs := by
  intro xs
  unfold PySem.W.maxOf
  induction xs generalizing x with
  | nil => exact ⟨List.mem_singleton.mpr rfl, fun y hy => by rw [List.mem_singleton.mp hy]; exact Int.le_refl _⟩
  | cons z zs ih =>
    rw [List.foldl_cons]
    have e : PySem.W.DatumOrd.lt x z = decide (x < z) := rfl
    rw [e]
    by_cases h : x < z
    · rw [if_pos (decide_eq_true h)]
      obtain ⟨h1, h2⟩ := ih z
      refine ⟨List.mem_cons_of_mem _ h1, fun y hy => ?_⟩
      rcases List.mem_cons.mp hy with rfl | hy
      · exact Int.le_trans (Int.le_of_lt h) (h2 z (List.mem_cons_self ..))
      · exact h2 y hy
    · rw [if_neg (by rw [decide_eq_false h]; decide)]
      obtain ⟨h1, h2⟩ := ih x
      refine ⟨?_, fun y hy => ?_⟩
      · rcases List.mem_cons.mp h1 with h1 | h1
        · rw [h1]; exact List.mem_cons_self ..
        · exact List.mem_cons_of_mem _ (List.mem_cons_of_mem _ h1)
      · rcases List.mem_cons.mp hy with rfl | hy
        · exact h2 _ (List.mem_cons_self ..)
        · rcases List.mem_cons.mp hy with rfl | hy
          · exact Int.le_trans (by omega) (h2 x (List.mem_cons_self ..))
          · exact h2 y (List.mem_cons_of_mem _ hy)
section
variable {X : Cx}
def rMAXD (K : PySem.W.Frag) : List V → List V → Hp → VK → Prop := fun xs zs H Q => ∃ (a : Addr) (ns : List Int) (d : V), xs = [.ref a] ∧ zs = [d] ∧ SqL K H a (ns.map V.int) ∧ (ns = [] → Q d H) ∧ ∀ m, m ∈ ns → (∀ y, y ∈ ns → y ≤ m) → Q (.int m) H
theorem call_MAXD (hc : X.calm = true) (hu : X.A.units + 64 < cLine) : CallRK X (.builtin "max") ["default"] (rMAXD X.K) := by
  intro pins s σ H xs zs us ws Q I rx rz h
  obtain ⟨a, ns, d, rfl, rfl, hs, q0, q⟩ := h
  obtain ⟨its, rv, hl, _⟩ := I.list hs
  rw [Vals.ref1 rx]
  cases rz with
  | cons r1 r2 =>
    cases r2
    rename_i w
    have hi : IntsAre its ns := rv.ints
    refine PySem.W.max_list_datum_default (xs := ns) (I.ok.hd hc) hl.isList ?_ ?_ (fun e h' tk hk => ⟨d, H, I.kept hk, r1, q0 e⟩) fun y ys i v h' tk e hv hh hk => ?_
    · rw [List.toList_toArray]
      exact PySem.W.HoldAll.of_ints hi
    · show X.A.units + 1 + 0 < cLine
      omega
    · subst e
      obtain ⟨m1, m2⟩ := maxOf_int y ys
      obtain ⟨as, hr⟩ := hh
      have hr' : Reads h' v (.int (PySem.W.maxOf y ys)) as := hr
      cases hr' with
      | int _ t => exact ⟨.int _, H, I.kept hk, ⟨t, rfl⟩, q _ m1 m2⟩
end
end My
namespace PySem
open Builtin Builtin.Str Builtin.Int
theorem my_gives_rjust3 (x : Str) (i : Int) (c : Nat) (t u v : Tok) (hr : (decide (i < -(2 ^ 63 : Int)) || decide (i ≥ 2 ^ 63)) = false) (hl : tooLong i.toNat = false) :
    Gives («str.rjust» ⟨[.str x t, .int i u, .str ⟨#[c]⟩ v], []⟩) (if i ≤ x.length then .val (.str x t) else .str (padded x (i.toNat - x.length) 0 c)) := by
  show Gives (do
             let width ← asSsize s!"str.{"rjust"}" (.int i u)
             if width ≤ x.length then (do rule s!"str.{"rjust"}.long-enough"; ret (.str x t)) else
             if tooLong width.toNat = true then unsupported s!"str.{"rjust"}:memory" else retStr (padded x (width.toNat - x.length) 0 c)) _
  rw [asSsize_int _ _ _ hr]
  show Gives (if i ≤ x.length then (do rule s!"str.{"rjust"}.long-enough"; ret (.str x t)) else if tooLong i.toNat = true then unsupported s!"str.{"rjust"}:memory" else retStr (padded x (i.toNat - x.length) 0 c)) _
  rw [hl]
  by_cases h : i ≤ (x.length : Int)
  · rw [if_pos h, if_pos h]; exact .rule (.of_eq rfl)
  · rw [if_neg h, if_neg h]; exact .of_eq rfl
def myRjust (x : Str) (i : Int) (c : Nat) : Str := if i ≤ x.length then x else padded x (i.toNat - x.length) 0 c
theorem my_rjust3 {prog : Program} {w : World} {A : Around} {E : Value → Shared → Prop} {s : Shared} {Q : Value → Shared → Prop} {x : Str} {t : Tok} {i : Int} {c : Nat} {u v : Tok} (hp : PadOk i = true) (hq : ∀ t' k, Q (.str (myRjust x i c) t') { s with toks := k }) : wpAny (model prog w) A (call (.builtin "str.rjust") [.str x t, .int i u, .str ⟨#[c]⟩ v]) Q E s :=
  call_gives F.slot_str_rjust (typeIs_str _ _ _) F.entry_str_rjust (F.args_str_rjust_3 _ _ _) (my_gives_rjust3 x i c t u v (PadOk.parts hp).1 (PadOk.parts hp).2) (post_val_or_made (fits_padL c (PadOk.parts hp).2) hq)
end PySem
namespace My
open PySem PySem.Spec PyProof.Rows L2
section
variable {X : Cx}
def rM_rjust2 : V → List V → Hp → VK → Prop := fun x xs H Q => ∃ (a : Str) (i : Int) (c : Nat), x = .str a ∧ xs = [.int i, .str ⟨#[c]⟩] ∧ PadOk i = true ∧ Q (.str (myRjust a i c)) H
theorem mt_RJUST2 : MtR X "str.rjust" rM_rjust2 := by
  intro pins s σ H x xs v us Q I rx rs h
  obtain ⟨a, i, c, rfl, rfl, hc, h⟩ := h
  obtain ⟨t, rfl⟩ := rx
  cases rs with
  | cons r1 rs =>
    cases rs with
    | cons r2 rs =>
      cases rs
      obtain ⟨u, rfl⟩ := r1
      obtain ⟨z, rfl⟩ := r2
      exact my_rjust3 hc fun t' k => ⟨.str (myRjust a i c), H, I.tok k, ⟨t', rfl⟩, h⟩
end
theorem rj_S (l : List Nat) (w c : Nat) : myRjust (S l) (w : Int) c = S (List.replicate (w - l.length) c ++ l) := by
  unfold myRjust
  rw [S_len]
  by_cases h : (w : Int) ≤ l.length
  · rw [if_pos h, show w - l.length = 0 by omega]
    rfl
  · rw [if_neg h]
    unfold Builtin.Str.padded
    show (⟨_⟩ : Str) = ⟨_⟩
    congr 1
    apply Array.ext'
    simp
theorem numL_eq (n : Nat) : TL.numL n = (Nat.toDigits 10 n).map Char.toNat := by
  unfold TL.numL
  simp
theorem rj_num (n : Nat) : myRjust (Str.ofString (toString (n : Int))) 6 48 = S (pad 6 n) := by
  rw [SX.num_S]
  have e := rj_S (TL.numL n) 6 48
  rw [numL_eq, List.length_map] at e
  rw [numL_eq]
  exact e
end My

set_option Elab.async false
set_option linter.all false
set_option maxRecDepth 100000
set_option maxHeartbeats 400000
/-! ### unpacking, slices of lists and tuples, appending -/
namespace My
open PySem PySem.Spec PyProof.Rows L2
section
variable {K : PySem.W.Frag} {H : Hp} {Q : VK} {σ : L2.St} {v x : V} {r : List V}
theorem x_gc {t : TG} {u : TGs} {N : L2.St → Hp → Prop} (h : t v σ H fun σ' H' => u r σ' H' N) : gCons t u (v :: r) σ H N := ⟨v, r, rfl, h⟩
theorem x_gz {N : L2.St → Hp → Prop} (h : N σ H) : gNil [] σ H N := ⟨rfl, h⟩
theorem gt_T {a : Addr} {xs : List V} {n : Nat} {t : TGs} {N : L2.St → Hp → Prop} (hs : SqT K H a xs) (hl : xs.length = n) (h : t xs σ H N) : gTup K n t (.ref a) σ H N := ⟨a, xs, rfl, hs, hl, h⟩
theorem x_ckw {rr : List V → List V → Hp → VK → Prop} {ta tk : TA} (h : ta σ H fun vs H1 => tk σ H1 fun zs H2 => rr vs zs H2 Q) : tCKw rr ta tk σ H Q := h
theorem ap_L {p : Addr} {xs : List V} {y : V} (hp : H p = some (.lst xs)) (hl : xs.length ≤ 1000000) (h : Q .non (upd H p (.lst (xs ++ [y])))) : rAppend (.ref p) [y] H Q := ⟨p, xs, y, rfl, rfl, hp, Nat.lt_of_le_of_lt hl (by decide), h⟩
theorem cutV_mid (xs : List V) (a b : Nat) : cutV xs (some (a : Int)) (some (b : Int)) = (xs.take b).drop a := by
  unfold cutV
  rw [HT.sIx_nat, HT.sIx_nat, List.drop_take]
  rcases Nat.le_total a xs.length with h | h
  · rw [Nat.min_eq_left h]
    rcases Nat.le_total b xs.length with h2 | h2
    · rw [Nat.min_eq_left h2]
    · rw [Nat.min_eq_right h2, List.take_of_length_le (by rw [List.length_drop]; exact Nat.le_refl _), List.take_of_length_le (by rw [List.length_drop]; omega)]
  · rw [Nat.min_eq_right h, List.drop_eq_nil_of_le h]
    simp
theorem cutV_from (xs : List V) (a : Nat) : cutV xs (some (a : Int)) none = xs.drop a := by
  unfold cutV
  rw [HT.sIx_nat, HT.sIx_none]
  rcases Nat.le_total a xs.length with h | h
  · rw [Nat.min_eq_left h]
    exact List.take_of_length_le (by rw [List.length_drop]; exact Nat.le_refl _)
  · rw [Nat.min_eq_right h, List.drop_eq_nil_of_le h]
    simp
theorem cutV_to (xs : List V) (b : Nat) : cutV xs none (some (b : Int)) = xs.take b := by
  unfold cutV
  rw [HT.sIx_nat, HT.sIx_none, List.drop_zero, Nat.sub_zero]
  rcases Nat.le_total b xs.length with h | h
  · rw [Nat.min_eq_left h]
  · rw [Nat.min_eq_right h, List.take_of_length_le (Nat.le_refl _), List.take_of_length_le h]
theorem sl_T {a : Addr} {xs : List V} {lo hi : Option Int} (hs : SqT K H a xs) (h : ∀ p H', Same H H' → SqT K H' p (cutV xs lo hi) → Q (.ref p) H') : rSL K (.ref a) lo hi H Q := by
  refine .inr (.inr ⟨a, xs, rfl, hs, fun e => ?_, fun _ p hp => h p _ (same_upd hp) (tup_of upd_same)⟩)
  refine h a H (Same.refl H) ?_
  have e2 : cutV xs lo hi = xs := by
    unfold cutV
    rw [e.1, e.2, List.drop_zero, Nat.sub_zero, List.take_of_length_le (Nat.le_refl _)]
  rw [e2]
  exact hs
theorem sl_any {l : List Nat} {lo hi : Option Int} (hl : l.length ≤ 1000000) (hT : isT l = true) (q : ∀ l', l'.length ≤ l.length → isT l' = true → Q (.str (S l')) H) : rSL K (.str (S l)) lo hi H Q := by
  refine sl_S (by rw [S_len]; exact big_line hl) ?_
  unfold cutS
  rw [S_cps]
  refine q _ ?_ (isT_take _ (isT_drop _ hT))
  rw [List.length_take, List.length_drop]
  omega
theorem mx_L {a : Addr} {ns : List Int} (hs : SqL K H a (ns.map V.int)) (h0 : 0 < ns.length) (q : ∀ m, m ∈ ns → (∀ y, y ∈ ns → y ≤ m) → Q (.int m) H) : rMax K [.ref a] H Q := ⟨a, ns, rfl, hs, h0, q⟩
theorem mxd_L {a : Addr} {ns : List Int} {d : V} (hs : SqL K H a (ns.map V.int)) (h0 : ns = [] → Q d H) (q : ∀ m, m ∈ ns → (∀ y, y ∈ ns → y ≤ m) → Q (.int m) H) : rMAXD K [.ref a] [d] H Q := ⟨a, ns, d, rfl, rfl, hs, h0, q⟩
theorem tu_L {a : Addr} {xs : List V} (hs : SqL K H a xs) (h : ∀ l, H l = none → Q (.ref l) (upd H l (.tup xs))) : rTUPLE K [.ref a] H Q := ⟨a, xs, rfl, .inl ⟨hs, h⟩⟩
end
end My

set_option Elab.async false
set_option linter.all false
set_option maxRecDepth 100000
set_option maxHeartbeats 4000000
namespace My
open PySem PySem.Spec PyProof.Rows L2
/-! ### the text -/
def topS (i : Nat) : Stmt := PySem.Challenge.pw_heldpasts_k03_told_logs.main.body.getD i (.Pass ⟨0, 0, 0, 0⟩)
abbrev s_is_text : Stmt := topS 7
theorem sc_is_text : FnScope ["value"] ["value"] (defScope s_is_text) := ⟨rfl, rfl, rfl, by decide +kernel, rfl, by decide +kernel, by decide +kernel⟩
-- is_text: 0 value
abbrev s_number_at : Stmt := topS 8
theorem sc_number_at : FnScope ["text", "at", "size", "word"] ["text", "at", "size"] (defScope s_number_at) := ⟨rfl, rfl, rfl, by decide +kernel, rfl, by decide +kernel, by decide +kernel⟩
-- number_at: 0 text, 1 at, 2 size, 3 word
abbrev s_is_number : Stmt := topS 10
theorem sc_is_number : FnScope ["value", "low", "high"] ["value", "low", "high"] (defScope s_is_number) := ⟨rfl, rfl, rfl, by decide +kernel, rfl, by decide +kernel, by decide +kernel⟩
-- is_number: 0 value, 1 low, 2 high
abbrev s_is_block : Stmt := topS 11
theorem sc_is_block : FnScope ["value", "signs"] ["value", "signs"] (defScope s_is_block) := ⟨rfl, rfl, rfl, by decide +kernel, rfl, by decide +kernel, by decide +kernel⟩
-- is_block: 0 value, 1 signs
abbrev s_check_signs : Stmt := topS 12
theorem sc_check_signs : FnScope ["signs"] ["signs"] (defScope s_check_signs) := ⟨rfl, rfl, rfl, by decide +kernel, rfl, by decide +kernel, by decide +kernel⟩
-- check_signs: 0 signs
abbrev s_check_image : Stmt := topS 13
theorem sc_check_image : FnScope ["image", "signs", "block"] ["image", "signs"] (defScope s_check_image) := ⟨rfl, rfl, rfl, by decide +kernel, rfl, by decide +kernel, by decide +kernel⟩
-- check_image: 0 image, 1 signs*, 2 block
abbrev s_check_count : Stmt := topS 14
theorem sc_check_count : FnScope ["value", "low", "high"] ["value", "low", "high"] (defScope s_check_count) := ⟨rfl, rfl, rfl, by decide +kernel, rfl, by decide +kernel, by decide +kernel⟩
-- check_count: 0 value, 1 low, 2 high
abbrev s_check_age : Stmt := topS 15
theorem sc_check_age : FnScope ["age"] ["age"] (defScope s_check_age) := ⟨rfl, rfl, rfl, by decide +kernel, rfl, by decide +kernel, by decide +kernel⟩
-- check_age: 0 age
abbrev s_check_area : Stmt := topS 16
theorem sc_check_area : FnScope ["first", "count", "many"] ["first", "count", "many"] (defScope s_check_area) := ⟨rfl, rfl, rfl, by decide +kernel, rfl, by decide +kernel, by decide +kernel⟩
-- check_area: 0 first, 1 count, 2 many
abbrev s_piece_told : Stmt := topS 19
theorem sc_piece_told : FnScope ["block", "age", "number", "writer"] ["block"] (defScope s_piece_told) := ⟨rfl, rfl, rfl, by decide +kernel, rfl, by decide +kernel, by decide +kernel⟩
-- piece_told: 0 block, 1 age, 2 number, 3 writer
abbrev s_told_log : Stmt := topS 20
theorem sc_told_log : FnScope ["image", "signs", "first", "count", "age"] ["image", "signs", "first", "count", "age"] (defScope s_told_log) := ⟨rfl, rfl, rfl, by decide +kernel, rfl, by decide +kernel, by decide +kernel⟩
-- told_log: 0 image, 1 signs, 2 first, 3 count, 4 age
abbrev s_told_run : Stmt := topS 21
theorem sc_told_run : FnScope ["blocks", "signs", "age", "pieces", "block", "records", "number", "writer", "told", "record", "newest", "piece"] ["blocks", "signs", "age"] (defScope s_told_run) := ⟨rfl, rfl, rfl, by decide +kernel, rfl, by decide +kernel, by decide +kernel⟩
-- told_run: 0 blocks, 1 signs, 2 age*, 3 pieces, 4 block, 5 records, 6 number, 7 writer, 8 told, 9 record, 10 newest, 11 piece
abbrev s_piece_of_age : Stmt := topS 22
theorem sc_piece_of_age : FnScope ["block", "age", "piece"] ["block", "age"] (defScope s_piece_of_age) := ⟨rfl, rfl, rfl, by decide +kernel, rfl, by decide +kernel, by decide +kernel⟩
-- piece_of_age: 0 block, 1 age, 2 piece
abbrev s_told_record : Stmt := topS 23
theorem sc_told_record : FnScope ["pieces", "signs", "start", "least", "parts", "writer", "place", "number", "own_writer", "more", "part"] ["pieces", "signs", "start", "least"] (defScope s_told_record) := ⟨rfl, rfl, rfl, by decide +kernel, rfl, by decide +kernel, by decide +kernel⟩
-- told_record: 0 pieces, 1 signs, 2 start, 3 least, 4 parts, 5 writer, 6 place, 7 number, 8 own_writer, 9 more, 10 part
abbrev s__law_spring : Stmt := topS 25
theorem sc__law_spring : FnScope ["_law_script", "_law_great", "_law_cell", "_law_mixed"] ["_law_script"] (defScope s__law_spring) := ⟨rfl, rfl, rfl, by decide +kernel, rfl, by decide +kernel, by decide +kernel⟩
-- _law_spring: 0 _law_script, 1 _law_great, 2 _law_cell, 3 _law_mixed
abbrev s__law_drop : Stmt := topS 26
theorem sc__law_drop : FnScope ["_law_spring_here", "_law_many", "_law_great", "_law_found"] ["_law_spring_here", "_law_many"] (defScope s__law_drop) := ⟨rfl, rfl, rfl, by decide +kernel, rfl, by decide +kernel, by decide +kernel⟩
-- _law_drop: 0 _law_spring_here, 1 _law_many, 2 _law_great, 3 _law_found
abbrev s__law_text : Stmt := topS 27
theorem sc__law_text : FnScope ["_law_spring_here", "_law_size", "_law_signs", "_law_word", "_law_k", "_law_text_here", "_law_at"] ["_law_spring_here", "_law_size"] (defScope s__law_text) := ⟨rfl, rfl, rfl, by decide +kernel, rfl, by decide +kernel, by decide +kernel⟩
-- _law_text: 0 _law_spring_here*, 1 _law_size, 2 _law_signs*, 3 _law_word, 4 _law_k, 5 _law_text_here, 6 _law_at
abbrev s__law_kinds : Stmt := topS 28
theorem sc__law_kinds : FnScope ["_law_thing", "_law_found"] ["_law_thing"] (defScope s__law_kinds) := ⟨rfl, rfl, rfl, by decide +kernel, rfl, by decide +kernel, by decide +kernel⟩
-- _law_kinds: 0 _law_thing, 1 _law_found
abbrev s__law_alike : Stmt := topS 29
theorem sc__law_alike : FnScope ["_law_found", "_law_due", "_law_k"] ["_law_found", "_law_due"] (defScope s__law_alike) := ⟨rfl, rfl, rfl, by decide +kernel, rfl, by decide +kernel, by decide +kernel⟩
-- _law_alike: 0 _law_found*, 1 _law_due*, 2 _law_k
abbrev s__law_piece : Stmt := topS 30
theorem sc__law_piece : FnScope ["_law_age", "_law_number", "_law_writer", "_law_sign", "_law_part", "_law_heads", "_law_one"] ["_law_age", "_law_number", "_law_writer", "_law_sign", "_law_part"] (defScope s__law_piece) := ⟨rfl, rfl, rfl, by decide +kernel, rfl, by decide +kernel, by decide +kernel⟩
-- _law_piece: 0 _law_age, 1 _law_number, 2 _law_writer, 3 _law_sign, 4 _law_part, 5 _law_heads, 6 _law_one
abbrev s__law_parts : Stmt := topS 31
theorem sc__law_parts : FnScope ["_law_record", "_law_signs", "_law_room", "_law_at"] ["_law_record", "_law_signs"] (defScope s__law_parts) := ⟨rfl, rfl, rfl, by decide +kernel, rfl, by decide +kernel, by decide +kernel⟩
-- _law_parts: 0 _law_record*, 1 _law_signs, 2 _law_room*, 3 _law_at
abbrev s__law_read : Stmt := topS 32
theorem sc__law_read : FnScope ["_law_block", "_law_k"] ["_law_block"] (defScope s__law_read) := ⟨rfl, rfl, rfl, by decide +kernel, rfl, by decide +kernel, by decide +kernel⟩
-- _law_read: 0 _law_block*, 1 _law_k
abbrev s__law_told : Stmt := topS 33
theorem sc__law_told : FnScope ["_law_blocks", "_law_signs", "_law_age", "_law_pieces", "_law_block", "_law_mine", "_law_piece_here", "_law_records", "_law_parts_here", "_law_begun", "_law_least", "_law_holder", "_law_at"] ["_law_blocks", "_law_signs", "_law_age"] (defScope s__law_told) := ⟨rfl, rfl, rfl, by decide +kernel, rfl, by decide +kernel, by decide +kernel⟩
-- _law_told: 0 _law_blocks, 1 _law_signs, 2 _law_age*, 3 _law_pieces, 4 _law_block, 5 _law_mine, 6 _law_piece_here, 7 _law_records, 8 _law_parts_here, 9 _law_begun, 10 _law_least, 11 _law_holder, 12 _law_at
abbrev s__law_area : Stmt := topS 34
theorem sc__law_area : FnScope ["_law_spring_here", "_law_signs", "_law_age", "_law_count", "_law_blocks", "_law_writer", "_law_room", "_law_about", "_law_parts_here", "_law_k", "_law_sign"] ["_law_spring_here", "_law_signs", "_law_age", "_law_count"] (defScope s__law_area) := ⟨rfl, rfl, rfl, by decide +kernel, rfl, by decide +kernel, by decide +kernel⟩
-- _law_area: 0 _law_spring_here, 1 _law_signs, 2 _law_age, 3 _law_count, 4 _law_blocks, 5 _law_writer, 6 _law_room, 7 _law_about, 8 _law_parts_here, 9 _law_k, 10 _law_sign
abbrev s__law_six : Stmt := topS 35
theorem sc__law_six : FnScope ["_law_number"] ["_law_number"] (defScope s__law_six) := ⟨rfl, rfl, rfl, by decide +kernel, rfl, by decide +kernel, by decide +kernel⟩
-- _law_six: 0 _law_number
abbrev s__law_spoilt : Stmt := topS 36
theorem sc__law_spoilt : FnScope ["_law_spring_here", "_law_block", "_law_signs", "_law_age", "_law_number", "_law_writer", "_law_sign", "_law_part", "_law_way", "_law_step", "_law_numbers", "_law_one", "_law_at"] ["_law_spring_here", "_law_block", "_law_signs"] (defScope s__law_spoilt) := ⟨rfl, rfl, rfl, by decide +kernel, rfl, by decide +kernel, by decide +kernel⟩
-- _law_spoilt: 0 _law_spring_here, 1 _law_block, 2 _law_signs, 3 _law_age, 4 _law_number, 5 _law_writer, 6 _law_sign, 7 _law_part, 8 _law_way, 9 _law_step, 10 _law_numbers, 11 _law_one, 12 _law_at
abbrev s_law : Stmt := topS 37
theorem sc_law : FnScope ["_law_script", "_law_spring_here", "_law_turn", "_law_signs", "_law_count", "_law_age", "_law_blocks", "_law_k", "_law_first", "_law_beside", "_law_behind", "_law_image", "_law_wide", "_law_at", "_law_part", "_law_many", "_law_other", "_law_due", "_law_told_here"] ["_law_script"] (defScope s_law) := ⟨rfl, rfl, rfl, by decide +kernel, rfl, by decide +kernel, by decide +kernel⟩
-- law: 0 _law_script, 1 _law_spring_here, 2 _law_turn, 3 _law_signs, 4 _law_count*, 5 _law_age*, 6 _law_blocks, 7 _law_k, 8 _law_first, 9 _law_beside, 10 _law_behind, 11 _law_image, 12 _law_wide, 13 _law_at, 14 _law_part, 15 _law_many, 16 _law_other, 17 _law_due, 18 _law_told_here
/-! ### the facts -/
def g_kb_told_log_0 : List Value → List Value → List Value
  | [], [y0, y1, y2, y3, y4] => [y4, y3, y2, y1, y0]
  | _, _ => []
def gV_kb_told_log_0 : List V → List V → List V
  | [], [y0, y1, y2, y3, y4] => [y4, y3, y2, y1, y0]
  | _, _ => []
structure Fx (K : PySem.W.Frag) (mg : Str → Option Value) where
  a_is_text : Addr
  fd_is_text : FuncData
  F_is_text : Fun K "is_text" "is_text" s_is_text a_is_text fd_is_text
  g_is_text : mg "is_text" = some (.ref a_is_text)
  b_is_text : Binds K fd_is_text ["value"] []
  a_number_at : Addr
  fd_number_at : FuncData
  F_number_at : Fun K "number_at" "number_at" s_number_at a_number_at fd_number_at
  g_number_at : mg "number_at" = some (.ref a_number_at)
  b_number_at : Binds K fd_number_at ["text", "at", "size"] []
  a_is_number : Addr
  fd_is_number : FuncData
  F_is_number : Fun K "is_number" "is_number" s_is_number a_is_number fd_is_number
  g_is_number : mg "is_number" = some (.ref a_is_number)
  b_is_number : Binds K fd_is_number ["value", "low", "high"] []
  a_is_block : Addr
  fd_is_block : FuncData
  F_is_block : Fun K "is_block" "is_block" s_is_block a_is_block fd_is_block
  g_is_block : mg "is_block" = some (.ref a_is_block)
  b_is_block : Binds K fd_is_block ["value", "signs"] []
  a_check_signs : Addr
  fd_check_signs : FuncData
  F_check_signs : Fun K "check_signs" "check_signs" s_check_signs a_check_signs fd_check_signs
  g_check_signs : mg "check_signs" = some (.ref a_check_signs)
  b_check_signs : Binds K fd_check_signs ["signs"] []
  a_check_image : Addr
  fd_check_image : FuncData
  F_check_image : Fun K "check_image" "check_image" s_check_image a_check_image fd_check_image
  g_check_image : mg "check_image" = some (.ref a_check_image)
  b_check_image : Binds K fd_check_image ["image", "signs"] []
  a_check_count : Addr
  fd_check_count : FuncData
  F_check_count : Fun K "check_count" "check_count" s_check_count a_check_count fd_check_count
  g_check_count : mg "check_count" = some (.ref a_check_count)
  b_check_count : Binds K fd_check_count ["value", "low", "high"] []
  a_check_age : Addr
  fd_check_age : FuncData
  F_check_age : Fun K "check_age" "check_age" s_check_age a_check_age fd_check_age
  g_check_age : mg "check_age" = some (.ref a_check_age)
  b_check_age : Binds K fd_check_age ["age"] []
  a_check_area : Addr
  fd_check_area : FuncData
  F_check_area : Fun K "check_area" "check_area" s_check_area a_check_area fd_check_area
  g_check_area : mg "check_area" = some (.ref a_check_area)
  b_check_area : Binds K fd_check_area ["first", "count", "many"] []
  a_piece_told : Addr
  fd_piece_told : FuncData
  F_piece_told : Fun K "piece_told" "piece_told" s_piece_told a_piece_told fd_piece_told
  g_piece_told : mg "piece_told" = some (.ref a_piece_told)
  b_piece_told : Binds K fd_piece_told ["block"] []
  a_told_log : Addr
  fd_told_log : FuncData
  F_told_log : Fun K "told_log" "told_log" s_told_log a_told_log fd_told_log
  g_told_log : mg "told_log" = some (.ref a_told_log)
  b_told_log : Binds K fd_told_log ["image", "signs", "first", "count", "age"] []
  a_told_run : Addr
  fd_told_run : FuncData
  F_told_run : Fun K "told_run" "told_run" s_told_run a_told_run fd_told_run
  g_told_run : mg "told_run" = some (.ref a_told_run)
  b_told_run : Binds K fd_told_run ["blocks", "signs", "age"] []
  a_piece_of_age : Addr
  fd_piece_of_age : FuncData
  F_piece_of_age : Fun K "piece_of_age" "piece_of_age" s_piece_of_age a_piece_of_age fd_piece_of_age
  g_piece_of_age : mg "piece_of_age" = some (.ref a_piece_of_age)
  b_piece_of_age : Binds K fd_piece_of_age ["block", "age"] []
  a_told_record : Addr
  fd_told_record : FuncData
  F_told_record : Fun K "told_record" "told_record" s_told_record a_told_record fd_told_record
  g_told_record : mg "told_record" = some (.ref a_told_record)
  b_told_record : Binds K fd_told_record ["pieces", "signs", "start", "least"] []
  a__law_spring : Addr
  fd__law_spring : FuncData
  F__law_spring : Fun K "_law_spring" "_law_spring" s__law_spring a__law_spring fd__law_spring
  g__law_spring : mg "_law_spring" = some (.ref a__law_spring)
  b__law_spring : Binds K fd__law_spring ["_law_script"] []
  a__law_drop : Addr
  fd__law_drop : FuncData
  F__law_drop : Fun K "_law_drop" "_law_drop" s__law_drop a__law_drop fd__law_drop
  g__law_drop : mg "_law_drop" = some (.ref a__law_drop)
  b__law_drop : Binds K fd__law_drop ["_law_spring_here", "_law_many"] []
  a__law_text : Addr
  fd__law_text : FuncData
  F__law_text : Fun K "_law_text" "_law_text" s__law_text a__law_text fd__law_text
  g__law_text : mg "_law_text" = some (.ref a__law_text)
  b__law_text : Binds K fd__law_text ["_law_spring_here", "_law_size"] []
  a__law_kinds : Addr
  fd__law_kinds : FuncData
  F__law_kinds : Fun K "_law_kinds" "_law_kinds" s__law_kinds a__law_kinds fd__law_kinds
  g__law_kinds : mg "_law_kinds" = some (.ref a__law_kinds)
  b__law_kinds : Binds K fd__law_kinds ["_law_thing"] []
  a__law_alike : Addr
  fd__law_alike : FuncData
  F__law_alike : Fun K "_law_alike" "_law_alike" s__law_alike a__law_alike fd__law_alike
  g__law_alike : mg "_law_alike" = some (.ref a__law_alike)
  b__law_alike : Binds K fd__law_alike ["_law_found", "_law_due"] []
  a__law_piece : Addr
  fd__law_piece : FuncData
  F__law_piece : Fun K "_law_piece" "_law_piece" s__law_piece a__law_piece fd__law_piece
  g__law_piece : mg "_law_piece" = some (.ref a__law_piece)
  b__law_piece : Binds K fd__law_piece ["_law_age", "_law_number", "_law_writer", "_law_sign", "_law_part"] []
  a__law_parts : Addr
  fd__law_parts : FuncData
  F__law_parts : Fun K "_law_parts" "_law_parts" s__law_parts a__law_parts fd__law_parts
  g__law_parts : mg "_law_parts" = some (.ref a__law_parts)
  b__law_parts : Binds K fd__law_parts ["_law_record", "_law_signs"] []
  a__law_read : Addr
  fd__law_read : FuncData
  F__law_read : Fun K "_law_read" "_law_read" s__law_read a__law_read fd__law_read
  g__law_read : mg "_law_read" = some (.ref a__law_read)
  b__law_read : Binds K fd__law_read ["_law_block"] []
  a__law_told : Addr
  fd__law_told : FuncData
  F__law_told : Fun K "_law_told" "_law_told" s__law_told a__law_told fd__law_told
  g__law_told : mg "_law_told" = some (.ref a__law_told)
  b__law_told : Binds K fd__law_told ["_law_blocks", "_law_signs", "_law_age"] []
  a__law_area : Addr
  fd__law_area : FuncData
  F__law_area : Fun K "_law_area" "_law_area" s__law_area a__law_area fd__law_area
  g__law_area : mg "_law_area" = some (.ref a__law_area)
  b__law_area : Binds K fd__law_area ["_law_spring_here", "_law_signs", "_law_age", "_law_count"] []
  a__law_six : Addr
  fd__law_six : FuncData
  F__law_six : Fun K "_law_six" "_law_six" s__law_six a__law_six fd__law_six
  g__law_six : mg "_law_six" = some (.ref a__law_six)
  b__law_six : Binds K fd__law_six ["_law_number"] []
  a__law_spoilt : Addr
  fd__law_spoilt : FuncData
  F__law_spoilt : Fun K "_law_spoilt" "_law_spoilt" s__law_spoilt a__law_spoilt fd__law_spoilt
  g__law_spoilt : mg "_law_spoilt" = some (.ref a__law_spoilt)
  b__law_spoilt : Binds K fd__law_spoilt ["_law_spring_here", "_law_block", "_law_signs"] []
  a_law : Addr
  fd_law : FuncData
  F_law : Fun K "law" "law" s_law a_law fd_law
  g_law : mg "law" = some (.ref a_law)
  b_law : Binds K fd_law ["_law_script"] []
  kb_told_log_0 : KBinds K fd_told_log ["image", "signs", "first", "count", "age"] ["age", "count", "first", "signs", "image"] g_kb_told_log_0 gV_kb_told_log_0
  m_all : mg "all" = none
  m_bool : mg "bool" = none
  m_int : mg "int" = none
  m_isinstance : mg "isinstance" = none
  m_len : mg "len" = none
  m_list : mg "list" = none
  m_max : mg "max" = none
  m_min : mg "min" = none
  m_range : mg "range" = none
  m_str : mg "str" = none
  m_tuple : mg "tuple" = none
  m_type : mg "type" = none
  c_PIECE_HEAD : ∃ t, mg "PIECE_HEAD" = some (.int 19 t)

/-! ### the bodies -/
section
variable {P : Program} {w : World} {K : PySem.W.Frag} {mg : Str → Option Value} {base : Heap}
def t_is_text (K : PySem.W.Frag)  : TS :=
    (tRet (tAndV (tOp (rIS K) (tCB (rTyp K) (tCons (tVar 0) tNil)) (tC (.ty "str"))) (tAndV (tBM0 K "str" rM_isascii (tVar 0)) (tBM0 K "str" rM_isprintable (tVar 0)))))
theorem b_is_text (Y : Fx K mg)   {f : Addr} {cdv : Value} {A : Around} {outer : List Env} {s : Shared} {H : Hp} {E : XK} (hr : Room 0 (A.deeper (envOfC "is_text" (defScope s_is_text) s.heap.objs.size f cdv))) :
    PSs (cxOf CX0 P w K mg base ["value"] "is_text" (defScope s_is_text) f cdv A outer s H E).nox (defBody s_is_text) (t_is_text K ) :=
    (pss_one (ps_ret (pe_and (pe_cmpR op_IS (pe_callTy call_type1 (by rfl) Y.m_type (by decide +kernel) (pa_cons (pv 0) pa_nil)) (pe_bltn (v := .ty "str") (by rfl) Y.m_str (by decide +kernel) rfl) (nomark _)) (pe_and (pe_bm0 PySem.F.plainAttrs_str PySem.F.slot_str_isascii PySem.F.type_str_isascii mt_isascii (pv 0)) (pe_one (pe_bm0 PySem.F.plainAttrs_str PySem.F.slot_str_isprintable PySem.F.type_str_isprintable mt_isprintable (pv 0)))))))
def t_number_at (K : PySem.W.Frag)  : TS :=
    (tSeq (tAsg (tSl (rSL K) (tVar 0) (tPart (tVar 1)) (tPart (tOp (rADD K) (tVar 1) (tVar 2)))) (gName 3))
    (tSeq (tIfS (tAnd (tTest (tOp (rEQ K) (tCB (rLEN K) (tCons (tVar 3) tNil)) (tVar 2))) (tTru1 K (tBM0 K "str" rM_isdigit (tVar 3)))) (tRet (tCB rINT (tCons (tVar 3) tNil))) tNext)
    (tRet (tC .non))))
theorem b_number_at (Y : Fx K mg)   {f : Addr} {cdv : Value} {A : Around} {outer : List Env} {s : Shared} {H : Hp} {E : XK} (hr : Room 0 (A.deeper (envOfC "number_at" (defScope s_number_at) s.heap.objs.size f cdv))) :
    PSs (cxOf CX0 P w K mg base ["text", "at", "size", "word"] "number_at" (defScope s_number_at) f cdv A outer s H E).nox (defBody s_number_at) (t_number_at K ) :=
    (pss_cons (ps_set (i := 3) sc_number_at.nd rfl (Or.inl rfl) (pe_slice sl_SEQ (pv 0) (po_some (pv 1)) (po_some (pe_op op_ADD (pv 1) (pv 2)))))
    (pss_cons (ps_if (PW.pt (pw_and (pt_cmpR (op_EQ (hu_64 hr)) (pe_callB call_LEN (by rfl) Y.m_len (by decide +kernel) (pa_cons (pv 3) pa_nil)) (pv 2) (nomark _)) (pw_and1 (pt_tru (pe_bm0 PySem.F.plainAttrs_str PySem.F.slot_str_isdigit PySem.F.type_str_isdigit mt_isdigit (pv 3)) (by intro _; rfl))))) (pss_one (ps_ret (pe_callTy call_INT (by rfl) Y.m_int (by decide +kernel) (pa_cons (pv 3) pa_nil)))) pss_nil)
    (pss_one (ps_ret pe_non))))
def t_is_number (K : PySem.W.Frag)  : TS :=
    (tRet (tAndV (tOp (rIS K) (tCB (rTyp K) (tCons (tVar 0) tNil)) (tC (.ty "int"))) (tChain rLE rLE (tVar 1) (tVar 0) (tVar 2))))
theorem b_is_number (Y : Fx K mg)   {f : Addr} {cdv : Value} {A : Around} {outer : List Env} {s : Shared} {H : Hp} {E : XK} (hr : Room 0 (A.deeper (envOfC "is_number" (defScope s_is_number) s.heap.objs.size f cdv))) :
    PSs (cxOf CX0 P w K mg base ["value", "low", "high"] "is_number" (defScope s_is_number) f cdv A outer s H E).nox (defBody s_is_number) (t_is_number K ) :=
    (pss_one (ps_ret (pe_and (pe_cmpR op_IS (pe_callTy call_type1 (by rfl) Y.m_type (by decide +kernel) (pa_cons (pv 0) pa_nil)) (pe_bltn (v := .ty "int") (by rfl) Y.m_int (by decide +kernel) rfl) (nomark _)) (pe_one (pe_chain op_LE op_LE (pv 1) (pv 0) (pv 2))))))
def t_is_block (K : PySem.W.Frag) (sp_is_text : PySem.W.Frag → Sp) : TS :=
    (tRet (tAndV (tCall (sp_is_text K) [] E0 (tCons (tVar 0) tNil)) (tOp rLE (tCB (rLEN K) (tCons (tVar 0) tNil)) (tVar 1))))
theorem b_is_block (Y : Fx K mg) {sp_is_text : PySem.W.Frag → Sp} (G_is_text : FnOk P w K mg base CX0 1 Y.a_is_text Y.fd_is_text ["value"] (sp_is_text K)) {f : Addr} {cdv : Value} {A : Around} {outer : List Env} {s : Shared} {H : Hp} {E : XK} (hr : Room 1 (A.deeper (envOfC "is_block" (defScope s_is_block) s.heap.objs.size f cdv))) :
    PSs (cxOf CX0 P w K mg base ["value", "signs"] "is_block" (defScope s_is_block) f cdv A outer s H E).nox (defBody s_is_block) (t_is_block K sp_is_text) :=
    (pss_one (ps_ret (pe_and (pe_call G_is_text (hr.mono (by decide)) (by rfl) Y.g_is_text Y.F_is_text.kp Y.b_is_text .nil pass0 (pa_cons (pv 0) pa_nil)) (pe_one (pe_cmpR op_LE (pe_callB call_LEN (by rfl) Y.m_len (by decide +kernel) (pa_cons (pv 0) pa_nil)) (pv 1) (nomark _))))))
def t_check_signs (K : PySem.W.Frag) (sp_is_number : PySem.W.Frag → Sp) : TS :=
    (tIfS (tNot (tTru1 K (tCall (sp_is_number K) [] E0 (tCons (tVar 0) (tCons (tC (.int 100)) (tCons (tC (.int 1000)) tNil)))))) tNever tNext)
theorem b_check_signs (Y : Fx K mg) {sp_is_number : PySem.W.Frag → Sp} (G_is_number : FnOk P w K mg base CX0 1 Y.a_is_number Y.fd_is_number ["value", "low", "high"] (sp_is_number K)) {f : Addr} {cdv : Value} {A : Around} {outer : List Env} {s : Shared} {H : Hp} {E : XK} (hr : Room 1 (A.deeper (envOfC "check_signs" (defScope s_check_signs) s.heap.objs.size f cdv))) :
    PSs (cxOf CX0 P w K mg base ["signs"] "check_signs" (defScope s_check_signs) f cdv A outer s H E).nox (defBody s_check_signs) (t_check_signs K sp_is_number) :=
    (pss_one (ps_if (pt_not (pt_tru (pe_call G_is_number (hr.mono (by decide)) (by rfl) Y.g_is_number Y.F_is_number.kp Y.b_is_number .nil pass0 (pa_cons (pv 0) (pa_cons pe_int (pa_cons pe_int pa_nil)))) (by intro _; rfl))) (pss_one ps_never) pss_nil))
def t_check_image (K : PySem.W.Frag) (sp_is_block : PySem.W.Frag → Sp) : TS :=
    (tSeq (tIfS (tOr (tTest (tOp (rISN K) (tCB (rTyp K) (tCons (tVar 0) tNil)) (tC (.ty "tuple")))) (tNot (tTest (tChain rLE rLE (tC (.int 4)) (tCB (rLEN K) (tCons (tVar 0) tNil)) (tC (.int 200)))))) tNever tNext)
    (tIfS (tNot (tTru1 K (tCB (rAll K) (tCons (tLc (iTup K (tVar 0)) (gName 2) tYes (tCall (sp_is_block K) [] E0 (tCons (tVar 2) (tCons (tVar 1) tNil))) [2]) tNil)))) tNever tNext))
theorem b_check_image (Y : Fx K mg) {sp_is_block : PySem.W.Frag → Sp} (G_is_block : FnOk P w K mg base CX0 2 Y.a_is_block Y.fd_is_block ["value", "signs"] (sp_is_block K)) {f : Addr} {cdv : Value} {A : Around} {outer : List Env} {s : Shared} {H : Hp} {E : XK} (hr : Room 2 (A.deeper (envOfC "check_image" (defScope s_check_image) s.heap.objs.size f cdv))) :
    PSs (cxOf CX0 P w K mg base ["image", "signs", "block"] "check_image" (defScope s_check_image) f cdv A outer s H E).nox (defBody s_check_image) (t_check_image K sp_is_block) :=
    (pss_cons (ps_if (PW.pt (pw_or (pt_cmpR op_ISN (pe_callTy call_type1 (by rfl) Y.m_type (by decide +kernel) (pa_cons (pv 0) pa_nil)) (pe_bltn (v := .ty "tuple") (by rfl) Y.m_tuple (by decide +kernel) rfl) (nomark _)) (pw_or1 (pt_not (pt_chain op_LE op_LE pe_int (pe_callB call_LEN (by rfl) Y.m_len (by decide +kernel) (pa_cons (pv 0) pa_nil)) pe_int))))) (pss_one ps_never) pss_nil)
    (pss_one (ps_if (pt_not (pt_tru (pe_callB (cr_all rfl) (by rfl) Y.m_all (by decide +kernel) (pa_cons (pe_lc (own := [("block", 2)]) (by rfl) sc_check_image.nd (pi_tup (pv 0)) (blkOk_by (own := [("block", 2)]) (N := ["image", "signs", "block"]) (sc := defScope s_check_image) (by decide +kernel)) (fun _ _ _ _ _ => (pg_name (i := 2) sc_check_image.nd rfl (Or.inl rfl))) (fun _ _ _ _ _ => pts_nil) (fun _ _ _ _ _ => (pe_call G_is_block (hr.mono (by decide)) (by rfl) Y.g_is_block Y.F_is_block.kp Y.b_is_block .nil pass0 (pa_cons (pv 2) (pa_cons (pv 1) pa_nil))))) pa_nil)) (by intro _; rfl))) (pss_one ps_never) pss_nil)))
def t_check_count (K : PySem.W.Frag) (sp_is_number : PySem.W.Frag → Sp) : TS :=
    (tIfS (tNot (tTru1 K (tCall (sp_is_number K) [] E0 (tCons (tVar 0) (tCons (tVar 1) (tCons (tVar 2) tNil)))))) tNever tNext)
theorem b_check_count (Y : Fx K mg) {sp_is_number : PySem.W.Frag → Sp} (G_is_number : FnOk P w K mg base CX0 1 Y.a_is_number Y.fd_is_number ["value", "low", "high"] (sp_is_number K)) {f : Addr} {cdv : Value} {A : Around} {outer : List Env} {s : Shared} {H : Hp} {E : XK} (hr : Room 1 (A.deeper (envOfC "check_count" (defScope s_check_count) s.heap.objs.size f cdv))) :
    PSs (cxOf CX0 P w K mg base ["value", "low", "high"] "check_count" (defScope s_check_count) f cdv A outer s H E).nox (defBody s_check_count) (t_check_count K sp_is_number) :=
    (pss_one (ps_if (pt_not (pt_tru (pe_call G_is_number (hr.mono (by decide)) (by rfl) Y.g_is_number Y.F_is_number.kp Y.b_is_number .nil pass0 (pa_cons (pv 0) (pa_cons (pv 1) (pa_cons (pv 2) pa_nil)))) (by intro _; rfl))) (pss_one ps_never) pss_nil))
def t_check_age (K : PySem.W.Frag) (sp_check_count : PySem.W.Frag → Sp) : TS :=
    (tDrop (tCall (sp_check_count K) [] E0 (tCons (tVar 0) (tCons (tC (.int 0)) (tCons (tC (.int 999999)) tNil)))))
theorem b_check_age (Y : Fx K mg) {sp_check_count : PySem.W.Frag → Sp} (G_check_count : FnOk P w K mg base CX0 2 Y.a_check_count Y.fd_check_count ["value", "low", "high"] (sp_check_count K)) {f : Addr} {cdv : Value} {A : Around} {outer : List Env} {s : Shared} {H : Hp} {E : XK} (hr : Room 2 (A.deeper (envOfC "check_age" (defScope s_check_age) s.heap.objs.size f cdv))) :
    PSs (cxOf CX0 P w K mg base ["age"] "check_age" (defScope s_check_age) f cdv A outer s H E).nox (defBody s_check_age) (t_check_age K sp_check_count) :=
    (pss_one (ps_expr (pe_call G_check_count (hr.mono (by decide)) (by rfl) Y.g_check_count Y.F_check_count.kp Y.b_check_count .nil pass0 (pa_cons (pv 0) (pa_cons pe_int (pa_cons pe_int pa_nil))))))
def t_check_area (K : PySem.W.Frag) (sp_is_number : PySem.W.Frag → Sp) : TS :=
    (tIfS (tOr (tNot (tTru1 K (tCall (sp_is_number K) [] E0 (tCons (tVar 1) (tCons (tC (.int 1)) (tCons (tC (.int 197)) tNil)))))) (tNot (tTru1 K (tCall (sp_is_number K) [] E0 (tCons (tVar 0) (tCons (tC (.int 0)) (tCons (tOp rSUB (tVar 2) (tVar 1)) tNil))))))) tNever tNext)
theorem b_check_area (Y : Fx K mg) {sp_is_number : PySem.W.Frag → Sp} (G_is_number : FnOk P w K mg base CX0 1 Y.a_is_number Y.fd_is_number ["value", "low", "high"] (sp_is_number K)) {f : Addr} {cdv : Value} {A : Around} {outer : List Env} {s : Shared} {H : Hp} {E : XK} (hr : Room 1 (A.deeper (envOfC "check_area" (defScope s_check_area) s.heap.objs.size f cdv))) :
    PSs (cxOf CX0 P w K mg base ["first", "count", "many"] "check_area" (defScope s_check_area) f cdv A outer s H E).nox (defBody s_check_area) (t_check_area K sp_is_number) :=
    (pss_one (ps_if (PW.pt (pw_or (pt_not (pt_tru (pe_call G_is_number (hr.mono (by decide)) (by rfl) Y.g_is_number Y.F_is_number.kp Y.b_is_number .nil pass0 (pa_cons (pv 1) (pa_cons pe_int (pa_cons pe_int pa_nil)))) (by intro _; rfl))) (pw_or1 (pt_not (pt_tru (pe_call G_is_number (hr.mono (by decide)) (by rfl) Y.g_is_number Y.F_is_number.kp Y.b_is_number .nil pass0 (pa_cons (pv 0) (pa_cons pe_int (pa_cons (pe_op op_SUB (pv 2) (pv 1)) pa_nil)))) (by intro _; rfl)))))) (pss_one ps_never) pss_nil))
def t_piece_told (K : PySem.W.Frag) (sp_is_text : PySem.W.Frag → Sp) (sp_number_at : PySem.W.Frag → Sp) : TS :=
    (tSeq (tIfS (tOr (tNot (tTru1 K (tCall (sp_is_text K) [] E0 (tCons (tVar 0) tNil)))) (tOr (tTest (tOp rLT (tCB (rLEN K) (tCons (tVar 0) tNil)) (tC (.int 19)))) (tTest (tOp (rNINU K) (tOp (rIX K) (tVar 0) (tC (.int 18))) (tC (.str "+.")))))) (tRet (tC .non)) tNext)
    (tSeq (tPar3 1 2 3 (tCons (tCall (sp_number_at K) [] E0 (tCons (tVar 0) (tCons (tC (.int 0)) (tCons (tC (.int 6)) tNil)))) (tCons (tCall (sp_number_at K) [] E0 (tCons (tVar 0) (tCons (tC (.int 6)) (tCons (tC (.int 6)) tNil)))) (tCons (tCall (sp_number_at K) [] E0 (tCons (tVar 0) (tCons (tC (.int 12)) (tCons (tC (.int 6)) tNil)))) tNil))))
    (tSeq (tIfS (tOr (tTest (tOp (rIS K) (tVar 1) (tC .non))) (tOr (tTest (tOp (rIS K) (tVar 2) (tC .non))) (tTest (tOp (rIS K) (tVar 3) (tC .non))))) (tRet (tC .non)) tNext)
    (tRet (tTup (tCons (tVar 1) (tCons (tVar 2) (tCons (tVar 3) (tCons (tOp (rEQ K) (tOp (rIX K) (tVar 0) (tC (.int 18))) (tC (.str "+"))) (tCons (tSl (rSL K) (tVar 0) (tPart (tC (.int 19))) tNoPart) tNil))))))))))
theorem b_piece_told (Y : Fx K mg) {sp_is_text : PySem.W.Frag → Sp} {sp_number_at : PySem.W.Frag → Sp} (G_is_text : FnOk P w K mg base CX0 1 Y.a_is_text Y.fd_is_text ["value"] (sp_is_text K)) (G_number_at : FnOk P w K mg base CX0 1 Y.a_number_at Y.fd_number_at ["text", "at", "size"] (sp_number_at K)) {f : Addr} {cdv : Value} {A : Around} {outer : List Env} {s : Shared} {H : Hp} {E : XK} (hr : Room 1 (A.deeper (envOfC "piece_told" (defScope s_piece_told) s.heap.objs.size f cdv))) :
    PSs (cxOf CX0 P w K mg base ["block", "age", "number", "writer"] "piece_told" (defScope s_piece_told) f cdv A outer s H E).nox (defBody s_piece_told) (t_piece_told K sp_is_text sp_number_at) :=
    (pss_cons (ps_if (PW.pt (pw_or (pt_not (pt_tru (pe_call G_is_text (hr.mono (by decide)) (by rfl) Y.g_is_text Y.F_is_text.kp Y.b_is_text .nil pass0 (pa_cons (pv 0) pa_nil)) (by intro _; rfl))) (pw_or (pt_cmpR op_LT (pe_callB call_LEN (by rfl) Y.m_len (by decide +kernel) (pa_cons (pv 0) pa_nil)) (pe_cI (by rfl) Y.c_PIECE_HEAD) (nomark _)) (pw_or1 (pt_cmpR op_NIN (pe_ix ix_SEQ (pv 0) pe_int (fun _ _ => rfl)) pe_str (by with_unfolding_all rfl)))))) (pss_one (ps_ret pe_non)) pss_nil)
    (pss_cons (ps_par3 (i := 1) (j := 2) (l := 3) (by rfl) sc_piece_told.nd rfl rfl rfl (by decide) (by decide) (by decide) rfl rfl rfl (pa_cons (pe_call G_number_at (hr.mono (by decide)) (by rfl) Y.g_number_at Y.F_number_at.kp Y.b_number_at .nil pass0 (pa_cons (pv 0) (pa_cons pe_int (pa_cons pe_int pa_nil)))) (pa_cons (pe_call G_number_at (hr.mono (by decide)) (by rfl) Y.g_number_at Y.F_number_at.kp Y.b_number_at .nil pass0 (pa_cons (pv 0) (pa_cons pe_int (pa_cons pe_int pa_nil)))) (pa_cons (pe_call G_number_at (hr.mono (by decide)) (by rfl) Y.g_number_at Y.F_number_at.kp Y.b_number_at .nil pass0 (pa_cons (pv 0) (pa_cons pe_int (pa_cons pe_int pa_nil)))) pa_nil))) (by rfl))
    (pss_cons (ps_if (PW.pt (pw_or (pt_cmpR op_IS (pv 1) pe_non (nomark _)) (pw_or (pt_cmpR op_IS (pv 2) pe_non (nomark _)) (pw_or1 (pt_cmpR op_IS (pv 3) pe_non (nomark _)))))) (pss_one (ps_ret pe_non)) pss_nil)
    (pss_one (ps_ret (pe_tup (pa_cons (pv 1) (pa_cons (pv 2) (pa_cons (pv 3) (pa_cons (pe_cmpR (op_EQ (hu_64 hr)) (pe_ix ix_SEQ (pv 0) pe_int (fun _ _ => rfl)) pe_str (nomark _)) (pa_cons (pe_slice sl_SEQ (pv 0) (po_some (pe_cI (by rfl) Y.c_PIECE_HEAD)) po_none) pa_nil)))))))))))
def t_told_log (K : PySem.W.Frag) (sp_check_age : PySem.W.Frag → Sp) (sp_check_area : PySem.W.Frag → Sp) (sp_check_image : PySem.W.Frag → Sp) (sp_check_signs : PySem.W.Frag → Sp) (sp_told_run : PySem.W.Frag → Sp) : TS :=
    (tSeq (tDrop (tCall (sp_check_signs K) [] E0 (tCons (tVar 1) tNil)))
    (tSeq (tDrop (tCall (sp_check_image K) [] E0 (tCons (tVar 0) (tCons (tVar 1) tNil))))
    (tSeq (tDrop (tCall (sp_check_area K) [] E0 (tCons (tVar 2) (tCons (tVar 3) (tCons (tCB (rLEN K) (tCons (tVar 0) tNil)) tNil)))))
    (tSeq (tDrop (tCall (sp_check_age K) [] E0 (tCons (tVar 4) tNil)))
    (tRet (tCall (sp_told_run K) [] E0 (tCons (tSl (rSL K) (tVar 0) (tPart (tVar 2)) (tPart (tOp (rADD K) (tVar 2) (tVar 3)))) (tCons (tVar 1) (tCons (tVar 4) tNil)))))))))
theorem b_told_log (Y : Fx K mg) {sp_check_age : PySem.W.Frag → Sp} {sp_check_area : PySem.W.Frag → Sp} {sp_check_image : PySem.W.Frag → Sp} {sp_check_signs : PySem.W.Frag → Sp} {sp_told_run : PySem.W.Frag → Sp} (G_check_age : FnOk P w K mg base CX0 3 Y.a_check_age Y.fd_check_age ["age"] (sp_check_age K)) (G_check_area : FnOk P w K mg base CX0 2 Y.a_check_area Y.fd_check_area ["first", "count", "many"] (sp_check_area K)) (G_check_image : FnOk P w K mg base CX0 3 Y.a_check_image Y.fd_check_image ["image", "signs"] (sp_check_image K)) (G_check_signs : FnOk P w K mg base CX0 2 Y.a_check_signs Y.fd_check_signs ["signs"] (sp_check_signs K)) (G_told_run : FnOk P w K mg base CX0 4 Y.a_told_run Y.fd_told_run ["blocks", "signs", "age"] (sp_told_run K)) {f : Addr} {cdv : Value} {A : Around} {outer : List Env} {s : Shared} {H : Hp} {E : XK} (hr : Room 4 (A.deeper (envOfC "told_log" (defScope s_told_log) s.heap.objs.size f cdv))) :
    PSs (cxOf CX0 P w K mg base ["image", "signs", "first", "count", "age"] "told_log" (defScope s_told_log) f cdv A outer s H E).nox (defBody s_told_log) (t_told_log K sp_check_age sp_check_area sp_check_image sp_check_signs sp_told_run) :=
    (pss_cons (ps_expr (pe_call G_check_signs (hr.mono (by decide)) (by rfl) Y.g_check_signs Y.F_check_signs.kp Y.b_check_signs .nil pass0 (pa_cons (pv 1) pa_nil)))
    (pss_cons (ps_expr (pe_call G_check_image (hr.mono (by decide)) (by rfl) Y.g_check_image Y.F_check_image.kp Y.b_check_image .nil pass0 (pa_cons (pv 0) (pa_cons (pv 1) pa_nil))))
    (pss_cons (ps_expr (pe_call G_check_area (hr.mono (by decide)) (by rfl) Y.g_check_area Y.F_check_area.kp Y.b_check_area .nil pass0 (pa_cons (pv 2) (pa_cons (pv 3) (pa_cons (pe_callB call_LEN (by rfl) Y.m_len (by decide +kernel) (pa_cons (pv 0) pa_nil)) pa_nil)))))
    (pss_cons (ps_expr (pe_call G_check_age (hr.mono (by decide)) (by rfl) Y.g_check_age Y.F_check_age.kp Y.b_check_age .nil pass0 (pa_cons (pv 4) pa_nil)))
    (pss_one (ps_ret (pe_call G_told_run (hr.mono (by decide)) (by rfl) Y.g_told_run Y.F_told_run.kp Y.b_told_run .nil pass0 (pa_cons (pe_slice sl_SEQ (pv 0) (po_some (pv 2)) (po_some (pe_op op_ADD (pv 2) (pv 3)))) (pa_cons (pv 1) (pa_cons (pv 4) pa_nil))))))))))
def t_told_run (K : PySem.W.Frag) (sp_piece_of_age : PySem.W.Frag → Sp) (sp_told_record : PySem.W.Frag → Sp) : TS :=
    (tSeq (tAsg (tLc (iTup K (tVar 0)) (gName 4) tYes (tCall (sp_piece_of_age K) [] E0 (tCons (tVar 4) (tCons (tVar 2) tNil))) [4]) (gName 3))
    (tSeq (tAsg (tLst tNil) (gName 5))
    (tSeq (tAsg (tC (.int 0)) (gName 6))
    (tSeq (tAsg (tC (.int 0)) (gName 7))
    (tSeq (tAsg (tCall (sp_told_record K) [] E0 (tCons (tVar 3) (tCons (tVar 1) (tCons (tVar 6) (tCons (tVar 7) tNil))))) (gName 8))
    (tSeq (tWhile (tTest (tOp (rISN K) (tVar 8) (tC .non))) (tSeq (tAsg (tVar 8) (gTup K 3 (gCons (gName 9) (gCons (gName 6) (gCons (gName 7) gNil)))))
      (tSeq (tDrop (tBM K "list" rAppend (tVar 5) (tCons (tVar 9) tNil)))
      (tAsg (tCall (sp_told_record K) [] E0 (tCons (tVar 3) (tCons (tVar 1) (tCons (tVar 6) (tCons (tVar 7) tNil))))) (gName 8)))))
    (tSeq (tAsg (tCKw (rMAXD K) (tCons (tLc (iList K (tVar 3)) (gName 11) (tTest (tOp (rISN K) (tVar 11) (tC .non))) (tOp (rIX K) (tVar 11) (tC (.int 2))) [11]) tNil) (tCons (tUn rNEG (tC (.int 1))) tNil)) (gName 10))
    (tRet (tTup (tCons (tCB (rTUPLE K) (tCons (tVar 5) tNil)) (tCons (tVar 6) (tCons (tOp (rADD K) (tVar 10) (tC (.int 1))) tNil))))))))))))
theorem b_told_run (Y : Fx K mg) {sp_piece_of_age : PySem.W.Frag → Sp} {sp_told_record : PySem.W.Frag → Sp} (G_piece_of_age : FnOk P w K mg base CX0 3 Y.a_piece_of_age Y.fd_piece_of_age ["block", "age"] (sp_piece_of_age K)) (G_told_record : FnOk P w K mg base CX0 1 Y.a_told_record Y.fd_told_record ["pieces", "signs", "start", "least"] (sp_told_record K)) {f : Addr} {cdv : Value} {A : Around} {outer : List Env} {s : Shared} {H : Hp} {E : XK} (hr : Room 3 (A.deeper (envOfC "told_run" (defScope s_told_run) s.heap.objs.size f cdv))) :
    PSs (cxOf CX0 P w K mg base ["blocks", "signs", "age", "pieces", "block", "records", "number", "writer", "told", "record", "newest", "piece"] "told_run" (defScope s_told_run) f cdv A outer s H E).nox (defBody s_told_run) (t_told_run K sp_piece_of_age sp_told_record) :=
    (pss_cons (ps_setLc (i := 3) (own := [("block", 4)]) (by rfl) sc_told_run.nd rfl rfl (sw_true rfl rfl rfl (by decide +kernel)) (pi_tup (pv 0)) (blkOk_by (own := [("block", 4)]) (N := ["blocks", "signs", "age", "pieces", "block", "records", "number", "writer", "told", "record", "newest", "piece"]) (sc := defScope s_told_run) (by decide +kernel)) (fun _ _ _ _ _ => (pg_name (i := 4) sc_told_run.nd rfl (Or.inl rfl))) (fun _ _ _ _ _ => pts_nil) (fun _ _ _ _ _ => (pe_call G_piece_of_age (hr.mono (by decide)) (by rfl) Y.g_piece_of_age Y.F_piece_of_age.kp Y.b_piece_of_age .nil pass0 (pa_cons (pv 4) (pa_cons (pv 2) pa_nil)))))
    (pss_cons (ps_set (i := 5) sc_told_run.nd rfl (Or.inl rfl) (pe_lst pa_nil))
    (pss_cons (ps_set (i := 6) sc_told_run.nd rfl (Or.inl rfl) pe_int)
    (pss_cons (ps_set (i := 7) sc_told_run.nd rfl (Or.inl rfl) pe_int)
    (pss_cons (ps_set (i := 8) sc_told_run.nd rfl (Or.inl rfl) (pe_call G_told_record (hr.mono (by decide)) (by rfl) Y.g_told_record Y.F_told_record.kp Y.b_told_record .nil pass0 (pa_cons (pv 3) (pa_cons (pv 1) (pa_cons (pv 6) (pa_cons (pv 7) pa_nil))))))
    (pss_cons (ps_while PassesOwn.never (pt_cmpR op_ISN (pv 8) pe_non (nomark _)) (pss_cons (ps_asg (pv 8) (pg_tup rfl (pgs_cons (pg_name (i := 9) sc_told_run.nd rfl (Or.inl rfl)) (pgs_cons (pg_name (i := 6) sc_told_run.nd rfl (Or.inl rfl)) (pgs_cons (pg_name (i := 7) sc_told_run.nd rfl (Or.inl rfl)) pgs_nil)))))
      (pss_cons (ps_expr (pe_bm PySem.F.plainAttrs_list PySem.F.slot_list_append PySem.F.type_list_append mt_append (pv 5) (pa_cons (pv 9) pa_nil)))
      (pss_one (ps_set (i := 8) sc_told_run.nd rfl (Or.inl rfl) (pe_call G_told_record (hr.mono (by decide)) (by rfl) Y.g_told_record Y.F_told_record.kp Y.b_told_record .nil pass0 (pa_cons (pv 3) (pa_cons (pv 1) (pa_cons (pv 6) (pa_cons (pv 7) pa_nil))))))))))
    (pss_cons (ps_set (i := 10) sc_told_run.nd rfl (Or.inl rfl) (pe_callBK (call_MAXD rfl (hu_64 hr)) (by rfl) Y.m_max (by decide +kernel) (pa_cons (pe_lc (own := [("piece", 11)]) (by rfl) sc_told_run.nd (pi_list (pv 3)) (blkOk_by (own := [("piece", 11)]) (N := ["blocks", "signs", "age", "pieces", "block", "records", "number", "writer", "told", "record", "newest", "piece"]) (sc := defScope s_told_run) (by decide +kernel)) (fun _ _ _ _ _ => (pg_name (i := 11) sc_told_run.nd rfl (Or.inl rfl))) (fun _ _ _ _ _ => (pts_one (pt_cmpR op_ISN (pv 11) pe_non (nomark _)))) (fun _ _ _ _ _ => (pe_ix ix_SEQ (pv 11) pe_int (fun _ _ => rfl)))) pa_nil) (pk_cons (pe_un un_NEG pe_int) pk_nil)))
    (pss_one (ps_ret (pe_tup (pa_cons (pe_callTy call_TUPLE (by rfl) Y.m_tuple (by decide +kernel) (pa_cons (pv 5) pa_nil)) (pa_cons (pv 6) (pa_cons (pe_op op_ADD (pv 10) pe_int) pa_nil)))))))))))))
def t_piece_of_age (K : PySem.W.Frag) (sp_piece_told : PySem.W.Frag → Sp) : TS :=
    (tSeq (tAsg (tCall (sp_piece_told K) [] E0 (tCons (tVar 0) tNil)) (gName 2))
    (tSeq (tIfS (tAnd (tTest (tOp (rISN K) (tVar 2) (tC .non))) (tTest (tOp (rEQ K) (tOp (rIX K) (tVar 2) (tC (.int 0))) (tVar 1)))) (tRet (tVar 2)) tNext)
    (tRet (tC .non))))
theorem b_piece_of_age (Y : Fx K mg) {sp_piece_told : PySem.W.Frag → Sp} (G_piece_told : FnOk P w K mg base CX0 2 Y.a_piece_told Y.fd_piece_told ["block"] (sp_piece_told K)) {f : Addr} {cdv : Value} {A : Around} {outer : List Env} {s : Shared} {H : Hp} {E : XK} (hr : Room 2 (A.deeper (envOfC "piece_of_age" (defScope s_piece_of_age) s.heap.objs.size f cdv))) :
    PSs (cxOf CX0 P w K mg base ["block", "age", "piece"] "piece_of_age" (defScope s_piece_of_age) f cdv A outer s H E).nox (defBody s_piece_of_age) (t_piece_of_age K sp_piece_told) :=
    (pss_cons (ps_set (i := 2) sc_piece_of_age.nd rfl (Or.inl rfl) (pe_call G_piece_told (hr.mono (by decide)) (by rfl) Y.g_piece_told Y.F_piece_told.kp Y.b_piece_told .nil pass0 (pa_cons (pv 0) pa_nil)))
    (pss_cons (ps_if (PW.pt (pw_and (pt_cmpR op_ISN (pv 2) pe_non (nomark _)) (pw_and1 (pt_cmpR (op_EQ (hu_64 hr)) (pe_ix ix_SEQ (pv 2) pe_int (fun _ _ => rfl)) (pv 1) (nomark _))))) (pss_one (ps_ret (pv 2))) pss_nil)
    (pss_one (ps_ret pe_non))))
def t_told_record (K : PySem.W.Frag)  : TS :=
    (tSeq (tAsg (tLst tNil) (gName 4))
    (tSeq (tAsg (tC .non) (gName 5))
    (tSeq (tFor (iRng2 (tCons (tVar 2) (tCons (tCB (rLEN K) (tCons (tVar 0) tNil)) tNil))) (gName 6) (tSeq (tIfS (tTest (tOp (rIS K) (tOp (rIX K) (tVar 0) (tVar 6)) (tC .non))) (tRet (tC .non)) tNext)
      (tSeq (tAsg (tSl (rSL K) (tOp (rIX K) (tVar 0) (tVar 6)) (tPart (tC (.int 1))) tNoPart) (gTup K 4 (gCons (gName 7) (gCons (gName 8) (gCons (gName 9) (gCons (gName 10) gNil))))))
      (Evl.tCut (tIfS (tTest (tOp (rIS K) (tVar 5) (tC .non))) (tAsg (tVar 8) (gName 5)) tNext)
      (tSeq (tIfS (tOr (tTest (tOp (rNE K) (tVar 7) (tVar 6))) (tOr (tTest (tOp (rNE K) (tVar 8) (tVar 5))) (tTest (tOp rLT (tVar 5) (tVar 3))))) (tRet (tC .non)) tNext)
      (tSeq (tDrop (tBM K "list" rAppend (tVar 4) (tCons (tVar 10) tNil)))
      (tSeq (tIfS (tNot (tTru1 K (tVar 9))) (tRet (tTup (tCons (tBM K "str" (rJoin K) (tC (.str "")) (tCons (tVar 4) tNil)) (tCons (tOp (rADD K) (tVar 6) (tC (.int 1))) (tCons (tVar 5) tNil))))) tNext)
      (tIfS (tTest (tOp (rNE K) (tCB (rLEN K) (tCons (tVar 10) tNil)) (tOp rSUB (tVar 1) (tC (.int 19))))) (tRet (tC .non)) tNext))))))))
    (tRet (tC .non)))))
theorem b_told_record (Y : Fx K mg)   {f : Addr} {cdv : Value} {A : Around} {outer : List Env} {s : Shared} {H : Hp} {E : XK} (hr : Room 0 (A.deeper (envOfC "told_record" (defScope s_told_record) s.heap.objs.size f cdv))) :
    PSs (cxOf CX0 P w K mg base ["pieces", "signs", "start", "least", "parts", "writer", "place", "number", "own_writer", "more", "part"] "told_record" (defScope s_told_record) f cdv A outer s H E).nox (defBody s_told_record) (t_told_record K ) :=
    (pss_cons (ps_set (i := 4) sc_told_record.nd rfl (Or.inl rfl) (pe_lst pa_nil))
    (pss_cons (ps_set (i := 5) sc_told_record.nd rfl (Or.inl rfl) pe_non)
    (pss_cons (ps_for PassesOwn.never rfl (pi_range2 (by rfl) Y.m_range (pa_cons (pv 2) (pa_cons (pe_callB call_LEN (by rfl) Y.m_len (by decide +kernel) (pa_cons (pv 0) pa_nil)) pa_nil))) (pg_name (i := 6) sc_told_record.nd rfl (Or.inl rfl)) (pss_cons (ps_if (pt_cmpR op_IS (pe_ix ix_SEQ (pv 0) (pv 6) (fun _ _ => rfl)) pe_non (nomark _)) (pss_one (ps_ret pe_non)) pss_nil)
      (pss_cons (ps_asg (pe_slice sl_SEQ (pe_ix ix_SEQ (pv 0) (pv 6) (fun _ _ => rfl)) (po_some pe_int) po_none) (pg_tup rfl (pgs_cons (pg_name (i := 7) sc_told_record.nd rfl (Or.inl rfl)) (pgs_cons (pg_name (i := 8) sc_told_record.nd rfl (Or.inl rfl)) (pgs_cons (pg_name (i := 9) sc_told_record.nd rfl (Or.inl rfl)) (pgs_cons (pg_name (i := 10) sc_told_record.nd rfl (Or.inl rfl)) pgs_nil))))))
      (Evl.pss_cut (ps_if (pt_cmpR op_IS (pv 5) pe_non (nomark _)) (pss_one (ps_set (i := 5) sc_told_record.nd rfl (Or.inl rfl) (pv 8))) pss_nil)
      (pss_cons (ps_if (PW.pt (pw_or (pt_cmpR (op_NE (hu_64 hr)) (pv 7) (pv 6) (nomark _)) (pw_or (pt_cmpR (op_NE (hu_64 hr)) (pv 8) (pv 5) (nomark _)) (pw_or1 (pt_cmpR op_LT (pv 5) (pv 3) (nomark _)))))) (pss_one (ps_ret pe_non)) pss_nil)
      (pss_cons (ps_expr (pe_bm PySem.F.plainAttrs_list PySem.F.slot_list_append PySem.F.type_list_append mt_append (pv 4) (pa_cons (pv 10) pa_nil)))
      (pss_cons (ps_if (pt_not (pt_tru (pv 9) (by intro _; rfl))) (pss_one (ps_ret (pe_tup (pa_cons (pe_bm PySem.F.plainAttrs_str PySem.F.slot_str_join PySem.F.type_str_join mt_join pe_str (pa_cons (pv 4) pa_nil)) (pa_cons (pe_op op_ADD (pv 6) pe_int) (pa_cons (pv 5) pa_nil)))))) pss_nil)
      (pss_one (ps_if (pt_cmpR (op_NE (hu_64 hr)) (pe_callB call_LEN (by rfl) Y.m_len (by decide +kernel) (pa_cons (pv 10) pa_nil)) (pe_op op_SUB (pv 1) (pe_cI (by rfl) Y.c_PIECE_HEAD)) (nomark _)) (pss_one (ps_ret pe_non)) pss_nil)))))))))
    (pss_one (ps_ret pe_non)))))
def t__law_spring (K : PySem.W.Frag)  : TS :=
    (tSeq (tAsg (tLc (iList K (tVar 0)) (gName 2) (tTest (tOp rGE (tVar 2) (tOp rPOW (tC (.int 10)) (tC (.int 18))))) (tOp rSUB (tVar 2) (tOp rPOW (tC (.int 10)) (tC (.int 18)))) [2]) (gName 1))
    (tSeq (tAsg (tOp (rADD K) (tC (.int 15485863)) (tOp (rMUL K) (tC (.int 2)) (tCB (rLEN K) (tCons (tVar 0) tNil)))) (gName 3))
    (tSeq (tFor (iList K (tVar 0)) (gName 2) (tAsg (tOp rMOD (tCB rINT (tCons (tOp (rADD K) (tOp (rADD K) (tOp (rMUL K) (tVar 3) (tC (.int 982451653))) (tOp (rMUL K) (tVar 2) (tC (.int 49979687)))) (tC (.int 32452843))) tNil)) (tC (.int 2305843009213693951))) (gName 3)))
    (tRet (tLst (tCons (tVar 1) (tCons (tVar 3) (tCons (tC (.int 0)) tNil))))))))
theorem b__law_spring (Y : Fx K mg)   {f : Addr} {cdv : Value} {A : Around} {outer : List Env} {s : Shared} {H : Hp} {E : XK} (hr : Room 0 (A.deeper (envOfC "_law_spring" (defScope s__law_spring) s.heap.objs.size f cdv))) :
    PSs (cxOf CX0 P w K mg base ["_law_script", "_law_great", "_law_cell", "_law_mixed"] "_law_spring" (defScope s__law_spring) f cdv A outer s H E).nox (defBody s__law_spring) (t__law_spring K ) :=
    (pss_cons (ps_setLc (i := 1) (own := [("_law_cell", 2)]) (by rfl) sc__law_spring.nd rfl rfl (sw_true rfl rfl rfl (by decide +kernel)) (pi_list (pv 0)) (blkOk_by (own := [("_law_cell", 2)]) (N := ["_law_script", "_law_great", "_law_cell", "_law_mixed"]) (sc := defScope s__law_spring) (by decide +kernel)) (fun _ _ _ _ _ => (pg_name (i := 2) sc__law_spring.nd rfl (Or.inl rfl))) (fun _ _ _ _ _ => (pts_one (pt_cmpR op_GE (pv 2) (pe_op op_POW pe_int pe_int) (nomark _)))) (fun _ _ _ _ _ => (pe_op op_SUB (pv 2) (pe_op op_POW pe_int pe_int))))
    (pss_cons (ps_set (i := 3) sc__law_spring.nd rfl (Or.inl rfl) (pe_op op_ADD pe_int (pe_op op_MUL pe_int (pe_callB call_LEN (by rfl) Y.m_len (by decide +kernel) (pa_cons (pv 0) pa_nil)))))
    (pss_cons (ps_for PassesOwn.never rfl (pi_list (pv 0)) (pg_name (i := 2) sc__law_spring.nd rfl (Or.inl rfl)) (pss_one (ps_set (i := 3) sc__law_spring.nd rfl (Or.inl rfl) (pe_op op_MOD (pe_callTy call_INT (by rfl) Y.m_int (by decide +kernel) (pa_cons (pe_op op_ADD (pe_op op_ADD (pe_op op_MUL (pv 3) pe_int) (pe_op op_MUL (pv 2) pe_int)) pe_int) pa_nil)) pe_int))))
    (pss_one (ps_ret (pe_lst (pa_cons (pv 1) (pa_cons (pv 3) (pa_cons pe_int pa_nil)))))))))
def t__law_drop (K : PySem.W.Frag)  : TS :=
    (tSeq (tAsg (tOp (rIX K) (tVar 0) (tC (.int 0))) (gName 2))
    (tSeq (tWhile (tAnd (tTest (tOp (rNE K) (tVar 2) (tLst tNil))) (tTest (tOp (rEQ K) (tOp (rIX K) (tVar 2) (tC (.int 0))) (tC (.int 0))))) (tDrop (tBM K "list" rPOP (tVar 2) (tCons (tC (.int 0)) tNil))))
    (tSeq (tIfS (tTest (tOp (rNE K) (tVar 2) (tLst tNil))) (tSeq (tAsg (tOp rMOD (tCB rINT (tCons (tOp (rIX K) (tVar 2) (tC (.int 0))) tNil)) (tVar 1)) (gName 3))
      (tSeq (tAsg (tOp rFDIV (tOp (rIX K) (tVar 2) (tC (.int 0))) (tVar 1)) (gSub (tVar 2) (tC (.int 0)) rSetL))
      (tRet (tVar 3)))) tNext)
    (tSeq (tAsg (tOp (rADD K) (tOp (rIX K) (tVar 0) (tC (.int 2))) (tC (.int 1))) (gSub (tVar 0) (tC (.int 2)) rSetL))
    (tSeq (tAsg (tOp rMOD (tCB rINT (tCons (tOp (rADD K) (tOp (rMUL K) (tOp (rIX K) (tVar 0) (tC (.int 1))) (tC (.int 6364136223846793005))) (tOp (rMUL K) (tOp (rIX K) (tVar 0) (tC (.int 2))) (tC (.int 1442695040888963407)))) tNil)) (tC (.int 2305843009213693951))) (gSub (tVar 0) (tC (.int 1)) rSetL))
    (tRet (tOp rMOD (tOp rFDIV (tOp rMOD (tCB rINT (tCons (tOp (rMUL K) (tOp (rIX K) (tVar 0) (tC (.int 1))) (tOp (rIX K) (tVar 0) (tC (.int 1)))) tNil)) (tC (.int 2305843009213693921))) (tC (.int 1048576))) (tVar 1))))))))
theorem b__law_drop (Y : Fx K mg)   {f : Addr} {cdv : Value} {A : Around} {outer : List Env} {s : Shared} {H : Hp} {E : XK} (hr : Room 0 (A.deeper (envOfC "_law_drop" (defScope s__law_drop) s.heap.objs.size f cdv))) :
    PSs (cxOf CX0 P w K mg base ["_law_spring_here", "_law_many", "_law_great", "_law_found"] "_law_drop" (defScope s__law_drop) f cdv A outer s H E).nox (defBody s__law_drop) (t__law_drop K ) :=
    (pss_cons (ps_set (i := 2) sc__law_drop.nd rfl (Or.inl rfl) (pe_ix ix_SEQ (pv 0) pe_int (fun _ _ => rfl)))
    (pss_cons (ps_while PassesOwn.never (PW.pt (pw_and (pt_cmpR (op_NE (hu_64 hr)) (pv 2) (pe_lst pa_nil) (nomark _)) (pw_and1 (pt_cmpR (op_EQ (hu_64 hr)) (pe_ix ix_SEQ (pv 2) pe_int (fun _ _ => rfl)) pe_int (nomark _))))) (pss_one (ps_expr (pe_bm PySem.F.plainAttrs_list PySem.F.slot_list_pop PySem.F.type_list_pop mt_POP (pv 2) (pa_cons pe_int pa_nil)))))
    (pss_cons (ps_if (pt_cmpR (op_NE (hu_64 hr)) (pv 2) (pe_lst pa_nil) (nomark _)) (pss_cons (ps_set (i := 3) sc__law_drop.nd rfl (Or.inl rfl) (pe_op op_MOD (pe_callTy call_INT (by rfl) Y.m_int (by decide +kernel) (pa_cons (pe_ix ix_SEQ (pv 2) pe_int (fun _ _ => rfl)) pa_nil)) (pv 1)))
      (pss_cons (ps_asg (pe_op op_FDIV (pe_ix ix_SEQ (pv 2) pe_int (fun _ _ => rfl)) (pv 1)) (pg_sub (pv 2) pe_int set_list))
      (pss_one (ps_ret (pv 3))))) pss_nil)
    (pss_cons (ps_asg (pe_op op_ADD (pe_ix ix_SEQ (pv 0) pe_int (fun _ _ => rfl)) pe_int) (pg_sub (pv 0) pe_int set_list))
    (pss_cons (ps_asg (pe_op op_MOD (pe_callTy call_INT (by rfl) Y.m_int (by decide +kernel) (pa_cons (pe_op op_ADD (pe_op op_MUL (pe_ix ix_SEQ (pv 0) pe_int (fun _ _ => rfl)) pe_int) (pe_op op_MUL (pe_ix ix_SEQ (pv 0) pe_int (fun _ _ => rfl)) pe_int)) pa_nil)) pe_int) (pg_sub (pv 0) pe_int set_list))
    (pss_one (ps_ret (pe_op op_MOD (pe_op op_FDIV (pe_op op_MOD (pe_callTy call_INT (by rfl) Y.m_int (by decide +kernel) (pa_cons (pe_op op_MUL (pe_ix ix_SEQ (pv 0) pe_int (fun _ _ => rfl)) (pe_ix ix_SEQ (pv 0) pe_int (fun _ _ => rfl))) pa_nil)) pe_int) pe_int) (pv 1)))))))))
def t__law_text (K : PySem.W.Frag) (sp__law_drop : PySem.W.Frag → Sp) : TS :=
    (tSeq (tAsg (tC (.str " !\"#$&'()*+,-./0123456789:;<=>?@ABCDEFGHIJKLMNOPQRSTUVWXYZ[\\]^_`abcdefghijklmnopqrstuvwxyz{|}~")) (gName 2))
    (Evl.tCut (tIfS (tTest (tOp (rEQ K) (tCall (sp__law_drop K) [] E0 (tCons (tVar 0) (tCons (tC (.int 4)) tNil))) (tC (.int 0)))) (tAsg (tC (.str "0123456789+.+.0 ")) (gName 2)) tNext)
    (tSeq (tAsg (tBM K "str" (rJoin K) (tC (.str "")) (tCons (tLc (iRng1 (tCons (tOp (rADD K) (tC (.int 1)) (tCall (sp__law_drop K) [] E0 (tCons (tVar 0) (tCons (tC (.int 4)) tNil)))) tNil)) (gName 4) tYes (tOp (rIX K) (tVar 2) (tCall (sp__law_drop K) [] E0 (tCons (tVar 0) (tCons (tCB (rLEN K) (tCons (tVar 2) tNil)) tNil)))) [4]) tNil)) (gName 3))
    (tSeq (tAsg (tSl (rSL K) (tOp (rMUL K) (tVar 3) (tVar 1)) tNoPart (tPart (tVar 1))) (gName 5))
    (tSeq (tAsg (tCall (sp__law_drop K) [] E0 (tCons (tVar 0) (tCons (tOp (rADD K) (tVar 1) (tC (.int 1))) tNil))) (gName 6))
    (tRet (tSl (rSL K) (tOp (rADD K) (tOp (rADD K) (tSl (rSL K) (tVar 5) tNoPart (tPart (tVar 6))) (tOp (rIX K) (tVar 2) (tCall (sp__law_drop K) [] E0 (tCons (tVar 0) (tCons (tCB (rLEN K) (tCons (tVar 2) tNil)) tNil))))) (tSl (rSL K) (tVar 5) (tPart (tOp (rADD K) (tVar 6) (tC (.int 1)))) tNoPart)) tNoPart (tPart (tVar 1)))))))))
theorem b__law_text (Y : Fx K mg) {sp__law_drop : PySem.W.Frag → Sp} (G__law_drop : FnOk P w K mg base CX0 1 Y.a__law_drop Y.fd__law_drop ["_law_spring_here", "_law_many"] (sp__law_drop K)) {f : Addr} {cdv : Value} {A : Around} {outer : List Env} {s : Shared} {H : Hp} {E : XK} (hr : Room 1 (A.deeper (envOfC "_law_text" (defScope s__law_text) s.heap.objs.size f cdv))) :
    PSs (cxOf CX0 P w K mg base ["_law_spring_here", "_law_size", "_law_signs", "_law_word", "_law_k", "_law_text_here", "_law_at"] "_law_text" (defScope s__law_text) f cdv A outer s H E).nox (defBody s__law_text) (t__law_text K sp__law_drop) :=
    (pss_cons (ps_set (i := 2) sc__law_text.nd rfl (Or.inr rfl) pe_str)
    (Evl.pss_cut (ps_if (pt_cmpR (op_EQ (hu_64 hr)) (pe_call G__law_drop (hr.mono (by decide)) (by rfl) Y.g__law_drop Y.F__law_drop.kp Y.b__law_drop .nil pass0 (pa_cons (pv 0) (pa_cons pe_int pa_nil))) pe_int (nomark _)) (pss_one (ps_set (i := 2) sc__law_text.nd rfl (Or.inr rfl) pe_str)) pss_nil)
    (pss_cons (ps_set (i := 3) sc__law_text.nd rfl (Or.inl rfl) (pe_bm PySem.F.plainAttrs_str PySem.F.slot_str_join PySem.F.type_str_join mt_join pe_str (pa_cons (pe_lc (own := [("_law_k", 4)]) (by rfl) sc__law_text.nd (pi_range1 (by rfl) Y.m_range (pa_cons (pe_op op_ADD pe_int (pe_call G__law_drop (hr.mono (by decide)) (by rfl) Y.g__law_drop Y.F__law_drop.kp Y.b__law_drop .nil pass0 (pa_cons (pv 0) (pa_cons pe_int pa_nil)))) pa_nil)) (blkOk_by (own := [("_law_k", 4)]) (N := ["_law_spring_here", "_law_size", "_law_signs", "_law_word", "_law_k", "_law_text_here", "_law_at"]) (sc := defScope s__law_text) (by decide +kernel)) (fun _ _ _ _ _ => (pg_name (i := 4) sc__law_text.nd rfl (Or.inl rfl))) (fun _ _ _ _ _ => pts_nil) (fun _ _ _ _ _ => (pe_ix ix_SEQ (pv 2) (pe_call G__law_drop (hr.mono (by decide)) (by rfl) Y.g__law_drop Y.F__law_drop.kp Y.b__law_drop .nil pass0 (pa_cons (pv 0) (pa_cons (pe_callB call_LEN (by rfl) Y.m_len (by decide +kernel) (pa_cons (pv 2) pa_nil)) pa_nil))) (fun _ _ => rfl)))) pa_nil)))
    (pss_cons (ps_set (i := 5) sc__law_text.nd rfl (Or.inl rfl) (pe_slice sl_SEQ (pe_op op_MUL (pv 3) (pv 1)) po_none (po_some (pv 1))))
    (pss_cons (ps_set (i := 6) sc__law_text.nd rfl (Or.inl rfl) (pe_call G__law_drop (hr.mono (by decide)) (by rfl) Y.g__law_drop Y.F__law_drop.kp Y.b__law_drop .nil pass0 (pa_cons (pv 0) (pa_cons (pe_op op_ADD (pv 1) pe_int) pa_nil))))
    (pss_one (ps_ret (pe_slice sl_SEQ (pe_op op_ADD (pe_op op_ADD (pe_slice sl_SEQ (pv 5) po_none (po_some (pv 6))) (pe_ix ix_SEQ (pv 2) (pe_call G__law_drop (hr.mono (by decide)) (by rfl) Y.g__law_drop Y.F__law_drop.kp Y.b__law_drop .nil pass0 (pa_cons (pv 0) (pa_cons (pe_callB call_LEN (by rfl) Y.m_len (by decide +kernel) (pa_cons (pv 2) pa_nil)) pa_nil))) (fun _ _ => rfl))) (pe_slice sl_SEQ (pv 5) (po_some (pe_op op_ADD (pv 6) pe_int)) po_none)) po_none (po_some (pv 1))))))))))
def t__law_kinds (K : PySem.W.Frag)  : TS :=
    (tSeq (tAsg (tLst (tCons (tCB (rISI K) (tCons (tVar 0) (tCons (tC (.ty "bool")) tNil))) (tCons (tCB (rISI K) (tCons (tVar 0) (tCons (tC (.ty "int")) tNil))) (tCons (tCB (rISI K) (tCons (tVar 0) (tCons (tC (.ty "str")) tNil))) tNil)))) (gName 1))
    (tRet (tOp (rADD K) (tVar 1) (tLst (tCons (tCB (rISI K) (tCons (tVar 0) (tCons (tC (.ty "tuple")) tNil))) (tCons (tCB (rISI K) (tCons (tVar 0) (tCons (tC (.ty "list")) tNil))) (tCons (tOp (rIS K) (tVar 0) (tC .non)) tNil)))))))
theorem b__law_kinds (Y : Fx K mg)   {f : Addr} {cdv : Value} {A : Around} {outer : List Env} {s : Shared} {H : Hp} {E : XK} (hr : Room 0 (A.deeper (envOfC "_law_kinds" (defScope s__law_kinds) s.heap.objs.size f cdv))) :
    PSs (cxOf CX0 P w K mg base ["_law_thing", "_law_found"] "_law_kinds" (defScope s__law_kinds) f cdv A outer s H E).nox (defBody s__law_kinds) (t__law_kinds K ) :=
    (pss_cons (ps_set (i := 1) sc__law_kinds.nd rfl (Or.inl rfl) (pe_lst (pa_cons (pe_callB call_ISI (by rfl) Y.m_isinstance (by decide +kernel) (pa_cons (pv 0) (pa_cons (pe_bltn (v := .ty "bool") (by rfl) Y.m_bool (by decide +kernel) rfl) pa_nil))) (pa_cons (pe_callB call_ISI (by rfl) Y.m_isinstance (by decide +kernel) (pa_cons (pv 0) (pa_cons (pe_bltn (v := .ty "int") (by rfl) Y.m_int (by decide +kernel) rfl) pa_nil))) (pa_cons (pe_callB call_ISI (by rfl) Y.m_isinstance (by decide +kernel) (pa_cons (pv 0) (pa_cons (pe_bltn (v := .ty "str") (by rfl) Y.m_str (by decide +kernel) rfl) pa_nil))) pa_nil)))))
    (pss_one (ps_ret (pe_op op_ADD (pv 1) (pe_lst (pa_cons (pe_callB call_ISI (by rfl) Y.m_isinstance (by decide +kernel) (pa_cons (pv 0) (pa_cons (pe_bltn (v := .ty "tuple") (by rfl) Y.m_tuple (by decide +kernel) rfl) pa_nil))) (pa_cons (pe_callB call_ISI (by rfl) Y.m_isinstance (by decide +kernel) (pa_cons (pv 0) (pa_cons (pe_bltn (v := .ty "list") (by rfl) Y.m_list (by decide +kernel) rfl) pa_nil))) (pa_cons (pe_cmpR op_IS (pv 0) pe_non (nomark _)) pa_nil))))))))
def t__law_alike (K : PySem.W.Frag) (sp__law_alike : PySem.W.Frag → Sp) (sp__law_kinds : PySem.W.Frag → Sp) : TS :=
    (tSeq (tIfS (tTest (tOp (rNE K) (tCall (sp__law_kinds K) [] E0 (tCons (tVar 0) tNil)) (tCall (sp__law_kinds K) [] E0 (tCons (tVar 1) tNil)))) (tRet (tC (.bl false))) tNext)
    (tSeq (tIfS (tTru1 K (tCB (rISI K) (tCons (tVar 1) (tCons (tTup (tCons (tC (.ty "tuple")) (tCons (tC (.ty "list")) tNil))) tNil)))) (tRet (tAndV (tOp (rEQ K) (tCB (rLEN K) (tCons (tVar 0) tNil)) (tCB (rLEN K) (tCons (tVar 1) tNil))) (tCB (rAll K) (tCons (tLc (iRng1 (tCons (tCB (rLEN K) (tCons (tVar 1) tNil)) tNil)) (gName 2) tYes (tCall (sp__law_alike K) [] E0 (tCons (tOp (rIX K) (tVar 0) (tVar 2)) (tCons (tOp (rIX K) (tVar 1) (tVar 2)) tNil))) [2]) tNil)))) tNext)
    (tRet (tOp (rEQ K) (tVar 0) (tVar 1)))))
theorem b__law_alike {n : Nat} (Y : Fx K mg) {sp__law_alike : PySem.W.Frag → Sp} {sp__law_kinds : PySem.W.Frag → Sp} (G__law_alike : FnOk P w K mg base CX0 n Y.a__law_alike Y.fd__law_alike ["_law_found", "_law_due"] (sp__law_alike K)) (G__law_kinds : FnOk P w K mg base CX0 1 Y.a__law_kinds Y.fd__law_kinds ["_law_thing"] (sp__law_kinds K)) {f : Addr} {cdv : Value} {A : Around} {outer : List Env} {s : Shared} {H : Hp} {E : XK} (hn : 1 ≤ n) (hr : Room n (A.deeper (envOfC "_law_alike" (defScope s__law_alike) s.heap.objs.size f cdv))) :
    PSs (cxOf CX0 P w K mg base ["_law_found", "_law_due", "_law_k"] "_law_alike" (defScope s__law_alike) f cdv A outer s H E).nox (defBody s__law_alike) (t__law_alike K sp__law_alike sp__law_kinds) :=
    (pss_cons (ps_if (pt_cmpR (op_NE (hu_64 hr)) (pe_call G__law_kinds (hr.mono (Nat.le_trans (by decide) hn)) (by rfl) Y.g__law_kinds Y.F__law_kinds.kp Y.b__law_kinds .nil pass0 (pa_cons (pv 0) pa_nil)) (pe_call G__law_kinds (hr.mono (Nat.le_trans (by decide) hn)) (by rfl) Y.g__law_kinds Y.F__law_kinds.kp Y.b__law_kinds .nil pass0 (pa_cons (pv 1) pa_nil)) (nomark _)) (pss_one (ps_ret pe_bl)) pss_nil)
    (pss_cons (ps_if (pt_tru (pe_callB call_ISI (by rfl) Y.m_isinstance (by decide +kernel) (pa_cons (pv 1) (pa_cons (pe_tup (pa_cons (pe_bltn (v := .ty "tuple") (by rfl) Y.m_tuple (by decide +kernel) rfl) (pa_cons (pe_bltn (v := .ty "list") (by rfl) Y.m_list (by decide +kernel) rfl) pa_nil))) pa_nil))) (by intro _; rfl)) (pss_one (ps_ret (pe_and (pe_cmpR (op_EQ (hu_64 hr)) (pe_callB call_LEN (by rfl) Y.m_len (by decide +kernel) (pa_cons (pv 0) pa_nil)) (pe_callB call_LEN (by rfl) Y.m_len (by decide +kernel) (pa_cons (pv 1) pa_nil)) (nomark _)) (pe_one (pe_callB (cr_all rfl) (by rfl) Y.m_all (by decide +kernel) (pa_cons (pe_lc (own := [("_law_k", 2)]) (by rfl) sc__law_alike.nd (pi_range1 (by rfl) Y.m_range (pa_cons (pe_callB call_LEN (by rfl) Y.m_len (by decide +kernel) (pa_cons (pv 1) pa_nil)) pa_nil)) (blkOk_by (own := [("_law_k", 2)]) (N := ["_law_found", "_law_due", "_law_k"]) (sc := defScope s__law_alike) (by decide +kernel)) (fun _ _ _ _ _ => (pg_name (i := 2) sc__law_alike.nd rfl (Or.inl rfl))) (fun _ _ _ _ _ => pts_nil) (fun _ _ _ _ _ => (pe_call G__law_alike hr (by rfl) Y.g__law_alike Y.F__law_alike.kp Y.b__law_alike .nil pass0 (pa_cons (pe_ix ix_SEQ (pv 0) (pv 2) (fun _ _ => rfl)) (pa_cons (pe_ix ix_SEQ (pv 1) (pv 2) (fun _ _ => rfl)) pa_nil))))) pa_nil)))))) pss_nil)
    (pss_one (ps_ret (pe_cmpR (op_EQ (hu_64 hr)) (pv 0) (pv 1) (nomark _))))))
def t__law_piece (K : PySem.W.Frag)  : TS :=
    (tSeq (tAsg (tLc (iList K (tLst (tCons (tVar 0) (tCons (tVar 1) (tCons (tVar 2) tNil))))) (gName 6) tYes (tBM K "str" rM_rjust2 (tCB rSTR (tCons (tVar 6) tNil)) (tCons (tC (.int 6)) (tCons (tC (.str "0")) tNil))) [6]) (gName 5))
    (tRet (tOp (rADD K) (tOp (rADD K) (tBM K "str" (rJoin K) (tC (.str "")) (tCons (tVar 5) tNil)) (tVar 3)) (tVar 4))))
theorem b__law_piece (Y : Fx K mg)   {f : Addr} {cdv : Value} {A : Around} {outer : List Env} {s : Shared} {H : Hp} {E : XK} (hr : Room 0 (A.deeper (envOfC "_law_piece" (defScope s__law_piece) s.heap.objs.size f cdv))) :
    PSs (cxOf CX0 P w K mg base ["_law_age", "_law_number", "_law_writer", "_law_sign", "_law_part", "_law_heads", "_law_one"] "_law_piece" (defScope s__law_piece) f cdv A outer s H E).nox (defBody s__law_piece) (t__law_piece K ) :=
    (pss_cons (ps_setLc (i := 5) (own := [("_law_one", 6)]) (by rfl) sc__law_piece.nd rfl rfl (sw_true rfl rfl rfl (by decide +kernel)) (pi_list (pe_lst (pa_cons (pv 0) (pa_cons (pv 1) (pa_cons (pv 2) pa_nil))))) (blkOk_by (own := [("_law_one", 6)]) (N := ["_law_age", "_law_number", "_law_writer", "_law_sign", "_law_part", "_law_heads", "_law_one"]) (sc := defScope s__law_piece) (by decide +kernel)) (fun _ _ _ _ _ => (pg_name (i := 6) sc__law_piece.nd rfl (Or.inl rfl))) (fun _ _ _ _ _ => pts_nil) (fun _ _ _ _ _ => (pe_bm PySem.F.plainAttrs_str PySem.F.slot_str_rjust PySem.F.type_str_rjust mt_RJUST2 (pe_callTy call_STR (by rfl) Y.m_str (by decide +kernel) (pa_cons (pv 6) pa_nil)) (pa_cons pe_int (pa_cons pe_str pa_nil)))))
    (pss_one (ps_ret (pe_op op_ADD (pe_op op_ADD (pe_bm PySem.F.plainAttrs_str PySem.F.slot_str_join PySem.F.type_str_join mt_join pe_str (pa_cons (pv 5) pa_nil)) (pv 3)) (pv 4)))))
def t__law_parts (K : PySem.W.Frag)  : TS :=
    (tSeq (tAsg (tOp rSUB (tVar 1) (tC (.int 19))) (gName 2))
    (tRet (tLc (iRng3 (tCons (tC (.int 0)) (tCons (tCB rMAX2 (tCons (tC (.int 1)) (tCons (tCB (rLEN K) (tCons (tVar 0) tNil)) tNil))) (tCons (tVar 2) tNil)))) (gName 3) tYes (tSl (rSL K) (tVar 0) (tPart (tVar 3)) (tPart (tOp (rADD K) (tVar 3) (tVar 2)))) [3])))
theorem b__law_parts (Y : Fx K mg)   {f : Addr} {cdv : Value} {A : Around} {outer : List Env} {s : Shared} {H : Hp} {E : XK} (hr : Room 0 (A.deeper (envOfC "_law_parts" (defScope s__law_parts) s.heap.objs.size f cdv))) :
    PSs (cxOf CX0 P w K mg base ["_law_record", "_law_signs", "_law_room", "_law_at"] "_law_parts" (defScope s__law_parts) f cdv A outer s H E).nox (defBody s__law_parts) (t__law_parts K ) :=
    (pss_cons (ps_set (i := 2) sc__law_parts.nd rfl (Or.inr rfl) (pe_op op_SUB (pv 1) pe_int))
    (pss_one (ps_ret (pe_lc (own := [("_law_at", 3)]) (by rfl) sc__law_parts.nd (pi_range3 (by rfl) Y.m_range (pa_cons pe_int (pa_cons (pe_callB (call_MAX2 rfl) (by rfl) Y.m_max (by decide +kernel) (pa_cons pe_int (pa_cons (pe_callB call_LEN (by rfl) Y.m_len (by decide +kernel) (pa_cons (pv 0) pa_nil)) pa_nil))) (pa_cons (pv 2) pa_nil)))) (blkOk_by (own := [("_law_at", 3)]) (N := ["_law_record", "_law_signs", "_law_room", "_law_at"]) (sc := defScope s__law_parts) (by decide +kernel)) (fun _ _ _ _ _ => (pg_name (i := 3) sc__law_parts.nd rfl (Or.inl rfl))) (fun _ _ _ _ _ => pts_nil) (fun _ _ _ _ _ => (pe_slice sl_SEQ (pv 0) (po_some (pv 3)) (po_some (pe_op op_ADD (pv 3) (pv 2)))))))))
def t__law_read (K : PySem.W.Frag)  : TS :=
    (tSeq (tIfS (tOr (tTest (tOp rLT (tCB (rLEN K) (tCons (tVar 0) tNil)) (tC (.int 19)))) (tOr (tTest (tOp (rNINU K) (tOp (rIX K) (tVar 0) (tC (.int 18))) (tC (.str "+.")))) (tTest (tOp (rNE K) (tLc (iRng1 (tCons (tC (.int 18)) tNil)) (gName 1) (tTest (tOp (rNINU K) (tOp (rIX K) (tVar 0) (tVar 1)) (tC (.str "0123456789")))) (tVar 1) [1]) (tLst tNil))))) (tRet (tC .non)) tNext)
    (tRet (tLst (tCons (tCB rINT (tCons (tSl (rSL K) (tVar 0) tNoPart (tPart (tC (.int 6)))) tNil)) (tCons (tCB rINT (tCons (tSl (rSL K) (tVar 0) (tPart (tC (.int 6))) (tPart (tC (.int 12)))) tNil)) (tCons (tCB rINT (tCons (tSl (rSL K) (tVar 0) (tPart (tC (.int 12))) (tPart (tC (.int 18)))) tNil)) (tCons (tOp (rIX K) (tVar 0) (tC (.int 18))) (tCons (tSl (rSL K) (tVar 0) (tPart (tC (.int 19))) tNoPart) tNil))))))))
theorem b__law_read (Y : Fx K mg)   {f : Addr} {cdv : Value} {A : Around} {outer : List Env} {s : Shared} {H : Hp} {E : XK} (hr : Room 0 (A.deeper (envOfC "_law_read" (defScope s__law_read) s.heap.objs.size f cdv))) :
    PSs (cxOf CX0 P w K mg base ["_law_block", "_law_k"] "_law_read" (defScope s__law_read) f cdv A outer s H E).nox (defBody s__law_read) (t__law_read K ) :=
    (pss_cons (ps_if (PW.pt (pw_or (pt_cmpR op_LT (pe_callB call_LEN (by rfl) Y.m_len (by decide +kernel) (pa_cons (pv 0) pa_nil)) pe_int (nomark _)) (pw_or (pt_cmpR op_NIN (pe_ix ix_SEQ (pv 0) pe_int (fun _ _ => rfl)) pe_str (by with_unfolding_all rfl)) (pw_or1 (pt_cmpR (op_NE (hu_64 hr)) (pe_lc (own := [("_law_k", 1)]) (by rfl) sc__law_read.nd (pi_range1 (by rfl) Y.m_range (pa_cons pe_int pa_nil)) (blkOk_by (own := [("_law_k", 1)]) (N := ["_law_block", "_law_k"]) (sc := defScope s__law_read) (by decide +kernel)) (fun _ _ _ _ _ => (pg_name (i := 1) sc__law_read.nd rfl (Or.inl rfl))) (fun _ _ _ _ _ => (pts_one (pt_cmpR op_NIN (pe_ix ix_SEQ (pv 0) (pv 1) (fun _ _ => rfl)) pe_str (by with_unfolding_all rfl)))) (fun _ _ _ _ _ => (pv 1))) (pe_lst pa_nil) (nomark _)))))) (pss_one (ps_ret pe_non)) pss_nil)
    (pss_one (ps_ret (pe_lst (pa_cons (pe_callTy call_INT (by rfl) Y.m_int (by decide +kernel) (pa_cons (pe_slice sl_SEQ (pv 0) po_none (po_some pe_int)) pa_nil)) (pa_cons (pe_callTy call_INT (by rfl) Y.m_int (by decide +kernel) (pa_cons (pe_slice sl_SEQ (pv 0) (po_some pe_int) (po_some pe_int)) pa_nil)) (pa_cons (pe_callTy call_INT (by rfl) Y.m_int (by decide +kernel) (pa_cons (pe_slice sl_SEQ (pv 0) (po_some pe_int) (po_some pe_int)) pa_nil)) (pa_cons (pe_ix ix_SEQ (pv 0) pe_int (fun _ _ => rfl)) (pa_cons (pe_slice sl_SEQ (pv 0) (po_some pe_int) po_none) pa_nil)))))))))
def t__law_told (K : PySem.W.Frag) (sp__law_read : PySem.W.Frag → Sp) : TS :=
    (tSeq (tAsg (tLc (iList K (tVar 0)) (gName 4) tYes (tCall (sp__law_read K) [] E0 (tCons (tVar 4) tNil)) [4]) (gName 3))
    (tSeq (tAsg (tLc (iList K (tVar 3)) (gName 6) (tAnd (tTest (tOp (rISN K) (tVar 6) (tC .non))) (tTest (tOp (rEQ K) (tOp (rIX K) (tVar 6) (tC (.int 0))) (tVar 2)))) (tOp (rIX K) (tVar 6) (tC (.int 2))) [6]) (gName 5))
    (tSeq (tAsg (tTup (tCons (tLst tNil) (tCons (tLst tNil) (tCons (tC (.int 0)) (tCons (tC (.int 0)) (tCons (tC (.int 0)) tNil)))))) (gTup K 5 (gCons (gName 7) (gCons (gName 8) (gCons (gName 9) (gCons (gName 10) (gCons (gName 11) gNil)))))))
    (tSeq (tFor (iRng1 (tCons (tCB (rLEN K) (tCons (tVar 3) tNil)) tNil)) (gName 12) (tSeq (tAsg (tOp (rIX K) (tVar 3) (tVar 12)) (gName 6))
      (tSeq (tIfS (tOr (tTest (tOp (rIS K) (tVar 6) (tC .non))) (tOr (tTest (tOp (rNE K) (tOp (rIX K) (tVar 6) (tC (.int 0))) (tVar 2))) (tTest (tOp (rNE K) (tOp (rIX K) (tVar 6) (tC (.int 1))) (tVar 12))))) tBreak tNext)
      (Evl.tCut (tIfS (tTest (tOp (rEQ K) (tVar 8) (tLst tNil))) (tAsg (tOp (rIX K) (tVar 6) (tC (.int 2))) (gName 11)) tNext)
      (tSeq (tIfS (tOr (tTest (tOp (rNE K) (tOp (rIX K) (tVar 6) (tC (.int 2))) (tVar 11))) (tOr (tTest (tOp rLT (tVar 11) (tVar 10))) (tAnd (tTest (tOp (rEQ K) (tOp (rIX K) (tVar 6) (tC (.int 3))) (tC (.str "+")))) (tTest (tOp (rNE K) (tCB (rLEN K) (tCons (tOp (rIX K) (tVar 6) (tC (.int 4))) tNil)) (tOp rSUB (tVar 1) (tC (.int 19)))))))) tBreak tNext)
      (tSeq (tDrop (tBM K "list" rAppend (tVar 8) (tCons (tOp (rIX K) (tVar 6) (tC (.int 4))) tNil)))
      (tIfS (tTest (tOp (rEQ K) (tOp (rIX K) (tVar 6) (tC (.int 3))) (tC (.str ".")))) (tSeq (tDrop (tBM K "list" rAppend (tVar 7) (tCons (tBM K "str" (rJoin K) (tC (.str "")) (tCons (tVar 8) tNil)) tNil)))
        (tPar3 8 9 10 (tCons (tLst tNil) (tCons (tOp (rADD K) (tVar 12) (tC (.int 1))) (tCons (tVar 11) tNil))))) tNext)))))))
    (tRet (tTup (tCons (tCB (rTUPLE K) (tCons (tVar 7) tNil)) (tCons (tVar 9) (tCons (tOp (rADD K) (tC (.int 1)) (tCB (rMax K) (tCons (tOp (rADD K) (tLst (tCons (tUn rNEG (tC (.int 1))) tNil)) (tVar 5)) tNil))) tNil)))))))))
theorem b__law_told (Y : Fx K mg) {sp__law_read : PySem.W.Frag → Sp} (G__law_read : FnOk P w K mg base CX0 1 Y.a__law_read Y.fd__law_read ["_law_block"] (sp__law_read K)) {f : Addr} {cdv : Value} {A : Around} {outer : List Env} {s : Shared} {H : Hp} {E : XK} (hr : Room 1 (A.deeper (envOfC "_law_told" (defScope s__law_told) s.heap.objs.size f cdv))) :
    PSs (cxOf CX0 P w K mg base ["_law_blocks", "_law_signs", "_law_age", "_law_pieces", "_law_block", "_law_mine", "_law_piece_here", "_law_records", "_law_parts_here", "_law_begun", "_law_least", "_law_holder", "_law_at"] "_law_told" (defScope s__law_told) f cdv A outer s H E).nox (defBody s__law_told) (t__law_told K sp__law_read) :=
    (pss_cons (ps_setLc (i := 3) (own := [("_law_block", 4)]) (by rfl) sc__law_told.nd rfl rfl (sw_true rfl rfl rfl (by decide +kernel)) (pi_list (pv 0)) (blkOk_by (own := [("_law_block", 4)]) (N := ["_law_blocks", "_law_signs", "_law_age", "_law_pieces", "_law_block", "_law_mine", "_law_piece_here", "_law_records", "_law_parts_here", "_law_begun", "_law_least", "_law_holder", "_law_at"]) (sc := defScope s__law_told) (by decide +kernel)) (fun _ _ _ _ _ => (pg_name (i := 4) sc__law_told.nd rfl (Or.inl rfl))) (fun _ _ _ _ _ => pts_nil) (fun _ _ _ _ _ => (pe_call G__law_read (hr.mono (by decide)) (by rfl) Y.g__law_read Y.F__law_read.kp Y.b__law_read .nil pass0 (pa_cons (pv 4) pa_nil))))
    (pss_cons (ps_setLc (i := 5) (own := [("_law_piece_here", 6)]) (by rfl) sc__law_told.nd rfl rfl (sw_true rfl rfl rfl (by decide +kernel)) (pi_list (pv 3)) (blkOk_by (own := [("_law_piece_here", 6)]) (N := ["_law_blocks", "_law_signs", "_law_age", "_law_pieces", "_law_block", "_law_mine", "_law_piece_here", "_law_records", "_law_parts_here", "_law_begun", "_law_least", "_law_holder", "_law_at"]) (sc := defScope s__law_told) (by decide +kernel)) (fun _ _ _ _ _ => (pg_name (i := 6) sc__law_told.nd rfl (Or.inl rfl))) (fun _ _ _ _ _ => (pts_one (PW.pt (pw_and (pt_cmpR op_ISN (pv 6) pe_non (nomark _)) (pw_and1 (pt_cmpR (op_EQ (hu_64 hr)) (pe_ix ix_SEQ (pv 6) pe_int (fun _ _ => rfl)) (pv 2) (nomark _))))))) (fun _ _ _ _ _ => (pe_ix ix_SEQ (pv 6) pe_int (fun _ _ => rfl))))
    (pss_cons (ps_asg (pe_tup (pa_cons (pe_lst pa_nil) (pa_cons (pe_lst pa_nil) (pa_cons pe_int (pa_cons pe_int (pa_cons pe_int pa_nil)))))) (pg_tup rfl (pgs_cons (pg_name (i := 7) sc__law_told.nd rfl (Or.inl rfl)) (pgs_cons (pg_name (i := 8) sc__law_told.nd rfl (Or.inl rfl)) (pgs_cons (pg_name (i := 9) sc__law_told.nd rfl (Or.inl rfl)) (pgs_cons (pg_name (i := 10) sc__law_told.nd rfl (Or.inl rfl)) (pgs_cons (pg_name (i := 11) sc__law_told.nd rfl (Or.inl rfl)) pgs_nil)))))))
    (pss_cons (ps_for PassesOwn.never rfl (pi_range1 (by rfl) Y.m_range (pa_cons (pe_callB call_LEN (by rfl) Y.m_len (by decide +kernel) (pa_cons (pv 3) pa_nil)) pa_nil)) (pg_name (i := 12) sc__law_told.nd rfl (Or.inl rfl)) (pss_cons (ps_set (i := 6) sc__law_told.nd rfl (Or.inl rfl) (pe_ix ix_SEQ (pv 3) (pv 12) (fun _ _ => rfl)))
      (pss_cons (ps_if (PW.pt (pw_or (pt_cmpR op_IS (pv 6) pe_non (nomark _)) (pw_or (pt_cmpR (op_NE (hu_64 hr)) (pe_ix ix_SEQ (pv 6) pe_int (fun _ _ => rfl)) (pv 2) (nomark _)) (pw_or1 (pt_cmpR (op_NE (hu_64 hr)) (pe_ix ix_SEQ (pv 6) pe_int (fun _ _ => rfl)) (pv 12) (nomark _)))))) (pss_one ps_break) pss_nil)
      (Evl.pss_cut (ps_if (pt_cmpR (op_EQ (hu_64 hr)) (pv 8) (pe_lst pa_nil) (nomark _)) (pss_one (ps_set (i := 11) sc__law_told.nd rfl (Or.inl rfl) (pe_ix ix_SEQ (pv 6) pe_int (fun _ _ => rfl)))) pss_nil)
      (pss_cons (ps_if (PW.pt (pw_or (pt_cmpR (op_NE (hu_64 hr)) (pe_ix ix_SEQ (pv 6) pe_int (fun _ _ => rfl)) (pv 11) (nomark _)) (pw_or (pt_cmpR op_LT (pv 11) (pv 10) (nomark _)) (pw_or1 (PW.pt (pw_and (pt_cmpR (op_EQ (hu_64 hr)) (pe_ix ix_SEQ (pv 6) pe_int (fun _ _ => rfl)) pe_str (nomark _)) (pw_and1 (pt_cmpR (op_NE (hu_64 hr)) (pe_callB call_LEN (by rfl) Y.m_len (by decide +kernel) (pa_cons (pe_ix ix_SEQ (pv 6) pe_int (fun _ _ => rfl)) pa_nil)) (pe_op op_SUB (pv 1) pe_int) (nomark _))))))))) (pss_one ps_break) pss_nil)
      (pss_cons (ps_expr (pe_bm PySem.F.plainAttrs_list PySem.F.slot_list_append PySem.F.type_list_append mt_append (pv 8) (pa_cons (pe_ix ix_SEQ (pv 6) pe_int (fun _ _ => rfl)) pa_nil)))
      (pss_one (ps_if (pt_cmpR (op_EQ (hu_64 hr)) (pe_ix ix_SEQ (pv 6) pe_int (fun _ _ => rfl)) pe_str (nomark _)) (pss_cons (ps_expr (pe_bm PySem.F.plainAttrs_list PySem.F.slot_list_append PySem.F.type_list_append mt_append (pv 7) (pa_cons (pe_bm PySem.F.plainAttrs_str PySem.F.slot_str_join PySem.F.type_str_join mt_join pe_str (pa_cons (pv 8) pa_nil)) pa_nil)))
        (pss_one (ps_par3 (i := 8) (j := 9) (l := 10) (by rfl) sc__law_told.nd rfl rfl rfl (by decide) (by decide) (by decide) rfl rfl rfl (pa_cons (pe_lst pa_nil) (pa_cons (pe_op op_ADD (pv 12) pe_int) (pa_cons (pv 11) pa_nil))) (by rfl)))) pss_nil))))))))
    (pss_one (ps_ret (pe_tup (pa_cons (pe_callTy call_TUPLE (by rfl) Y.m_tuple (by decide +kernel) (pa_cons (pv 7) pa_nil)) (pa_cons (pv 9) (pa_cons (pe_op op_ADD pe_int (pe_callB (cr_max rfl) (by rfl) Y.m_max (by decide +kernel) (pa_cons (pe_op op_ADD (pe_lst (pa_cons (pe_un un_NEG pe_int) pa_nil)) (pv 5)) pa_nil))) pa_nil))))))))))
def t__law_area (K : PySem.W.Frag) (sp__law_drop : PySem.W.Frag → Sp) (sp__law_parts : PySem.W.Frag → Sp) (sp__law_piece : PySem.W.Frag → Sp) (sp__law_text : PySem.W.Frag → Sp) : TS :=
    (tSeq (tPar 4 5 (tCons (tLst tNil) (tCons (tCall (sp__law_drop K) [] E0 (tCons (tVar 0) (tCons (tC (.int 3)) tNil))) tNil)))
    (tSeq (tWhile (tTest (tOp rLT (tCB (rLEN K) (tCons (tVar 4) tNil)) (tVar 3))) (tSeq (tAsg (tOp rSUB (tVar 1) (tC (.int 19))) (gName 6))
      (tSeq (tAsg (tOp (rADD K) (tOp (rIX K) (tLst (tCons (tC (.int 0)) (tCons (tC (.int 0)) (tCons (tC (.int 0)) (tCons (tOp rSUB (tVar 6) (tC (.int 1))) (tCons (tOp rSUB (tOp (rMUL K) (tC (.int 2)) (tVar 6)) (tC (.int 1))) (tCons (tOp rSUB (tOp (rMUL K) (tC (.int 3)) (tVar 6)) (tC (.int 1))) tNil))))))) (tCall (sp__law_drop K) [] E0 (tCons (tVar 0) (tCons (tC (.int 6)) tNil)))) (tCall (sp__law_drop K) [] E0 (tCons (tVar 0) (tCons (tC (.int 3)) tNil)))) (gName 7))
      (tSeq (tAsg (tCall (sp__law_parts K) [] E0 (tCons (tCall (sp__law_text K) [] E0 (tCons (tVar 0) (tCons (tVar 7) tNil))) (tCons (tVar 1) tNil))) (gName 8))
      (tSeq (tFor (iRng1 (tCons (tCB (rLEN K) (tCons (tVar 8) tNil)) tNil)) (gName 9) (tSeq (tAsg (tOp (rIX K) (tC (.str "+.")) (tCB rINT (tCons (tOp (rEQ K) (tVar 9) (tOp rSUB (tCB (rLEN K) (tCons (tVar 8) tNil)) (tC (.int 1)))) tNil))) (gName 10))
        (tDrop (tBM K "list" rAppend (tVar 4) (tCons (tCall (sp__law_piece K) [] E0 (tCons (tVar 2) (tCons (tCB (rLEN K) (tCons (tVar 4) tNil)) (tCons (tVar 5) (tCons (tVar 10) (tCons (tOp (rIX K) (tVar 8) (tVar 9)) tNil)))))) tNil)))))
      (tAsg (tCB rMAX2 (tCons (tC (.int 0)) (tCons (tOp (rADD K) (tVar 5) (tOp (rIX K) (tLst (tCons (tC (.int 0)) (tCons (tC (.int 0)) (tCons (tC (.int 0)) (tCons (tC (.int 0)) (tCons (tC (.int 1)) (tCons (tC (.int 2)) (tCons (tCall (sp__law_drop K) [] E0 (tCons (tVar 0) (tCons (tC (.int 9)) tNil))) (tCons (tUn rNEG (tC (.int 1))) tNil))))))))) (tCall (sp__law_drop K) [] E0 (tCons (tVar 0) (tCons (tC (.int 8)) tNil))))) tNil))) (gName 5)))))))
    (tRet (tSl (rSL K) (tVar 4) tNoPart (tPart (tVar 3))))))
theorem b__law_area (Y : Fx K mg) {sp__law_drop : PySem.W.Frag → Sp} {sp__law_parts : PySem.W.Frag → Sp} {sp__law_piece : PySem.W.Frag → Sp} {sp__law_text : PySem.W.Frag → Sp} (G__law_drop : FnOk P w K mg base CX0 1 Y.a__law_drop Y.fd__law_drop ["_law_spring_here", "_law_many"] (sp__law_drop K)) (G__law_parts : FnOk P w K mg base CX0 1 Y.a__law_parts Y.fd__law_parts ["_law_record", "_law_signs"] (sp__law_parts K)) (G__law_piece : FnOk P w K mg base CX0 1 Y.a__law_piece Y.fd__law_piece ["_law_age", "_law_number", "_law_writer", "_law_sign", "_law_part"] (sp__law_piece K)) (G__law_text : FnOk P w K mg base CX0 2 Y.a__law_text Y.fd__law_text ["_law_spring_here", "_law_size"] (sp__law_text K)) {f : Addr} {cdv : Value} {A : Around} {outer : List Env} {s : Shared} {H : Hp} {E : XK} (hr : Room 2 (A.deeper (envOfC "_law_area" (defScope s__law_area) s.heap.objs.size f cdv))) :
    PSs (cxOf CX0 P w K mg base ["_law_spring_here", "_law_signs", "_law_age", "_law_count", "_law_blocks", "_law_writer", "_law_room", "_law_about", "_law_parts_here", "_law_k", "_law_sign"] "_law_area" (defScope s__law_area) f cdv A outer s H E).nox (defBody s__law_area) (t__law_area K sp__law_drop sp__law_parts sp__law_piece sp__law_text) :=
    (pss_cons (ps_par (i := 4) (j := 5) (by rfl) sc__law_area.nd rfl rfl (by decide) rfl rfl (pa_cons (pe_lst pa_nil) (pa_cons (pe_call G__law_drop (hr.mono (by decide)) (by rfl) Y.g__law_drop Y.F__law_drop.kp Y.b__law_drop .nil pass0 (pa_cons (pv 0) (pa_cons pe_int pa_nil))) pa_nil)) (by rfl))
    (pss_cons (ps_while PassesOwn.never (pt_cmpR op_LT (pe_callB call_LEN (by rfl) Y.m_len (by decide +kernel) (pa_cons (pv 4) pa_nil)) (pv 3) (nomark _)) (pss_cons (ps_set (i := 6) sc__law_area.nd rfl (Or.inl rfl) (pe_op op_SUB (pv 1) pe_int))
      (pss_cons (ps_set (i := 7) sc__law_area.nd rfl (Or.inl rfl) (pe_op op_ADD (pe_ix ix_SEQ (pe_lst (pa_cons pe_int (pa_cons pe_int (pa_cons pe_int (pa_cons (pe_op op_SUB (pv 6) pe_int) (pa_cons (pe_op op_SUB (pe_op op_MUL pe_int (pv 6)) pe_int) (pa_cons (pe_op op_SUB (pe_op op_MUL pe_int (pv 6)) pe_int) pa_nil))))))) (pe_call G__law_drop (hr.mono (by decide)) (by rfl) Y.g__law_drop Y.F__law_drop.kp Y.b__law_drop .nil pass0 (pa_cons (pv 0) (pa_cons pe_int pa_nil))) (fun _ _ => rfl)) (pe_call G__law_drop (hr.mono (by decide)) (by rfl) Y.g__law_drop Y.F__law_drop.kp Y.b__law_drop .nil pass0 (pa_cons (pv 0) (pa_cons pe_int pa_nil)))))
      (pss_cons (ps_set (i := 8) sc__law_area.nd rfl (Or.inl rfl) (pe_call G__law_parts (hr.mono (by decide)) (by rfl) Y.g__law_parts Y.F__law_parts.kp Y.b__law_parts .nil pass0 (pa_cons (pe_call G__law_text (hr.mono (by decide)) (by rfl) Y.g__law_text Y.F__law_text.kp Y.b__law_text .nil pass0 (pa_cons (pv 0) (pa_cons (pv 7) pa_nil))) (pa_cons (pv 1) pa_nil))))
      (pss_cons (ps_for PassesOwn.never rfl (pi_range1 (by rfl) Y.m_range (pa_cons (pe_callB call_LEN (by rfl) Y.m_len (by decide +kernel) (pa_cons (pv 8) pa_nil)) pa_nil)) (pg_name (i := 9) sc__law_area.nd rfl (Or.inl rfl)) (pss_cons (ps_set (i := 10) sc__law_area.nd rfl (Or.inl rfl) (pe_ix ix_SEQ pe_str (pe_callTy call_INT (by rfl) Y.m_int (by decide +kernel) (pa_cons (pe_cmpR (op_EQ (hu_64 hr)) (pv 9) (pe_op op_SUB (pe_callB call_LEN (by rfl) Y.m_len (by decide +kernel) (pa_cons (pv 8) pa_nil)) pe_int) (nomark _)) pa_nil)) (fun _ _ => rfl)))
        (pss_one (ps_expr (pe_bm PySem.F.plainAttrs_list PySem.F.slot_list_append PySem.F.type_list_append mt_append (pv 4) (pa_cons (pe_call G__law_piece (hr.mono (by decide)) (by rfl) Y.g__law_piece Y.F__law_piece.kp Y.b__law_piece .nil pass0 (pa_cons (pv 2) (pa_cons (pe_callB call_LEN (by rfl) Y.m_len (by decide +kernel) (pa_cons (pv 4) pa_nil)) (pa_cons (pv 5) (pa_cons (pv 10) (pa_cons (pe_ix ix_SEQ (pv 8) (pv 9) (fun _ _ => rfl)) pa_nil)))))) pa_nil))))))
      (pss_one (ps_set (i := 5) sc__law_area.nd rfl (Or.inl rfl) (pe_callB (call_MAX2 rfl) (by rfl) Y.m_max (by decide +kernel) (pa_cons pe_int (pa_cons (pe_op op_ADD (pv 5) (pe_ix ix_SEQ (pe_lst (pa_cons pe_int (pa_cons pe_int (pa_cons pe_int (pa_cons pe_int (pa_cons pe_int (pa_cons pe_int (pa_cons (pe_call G__law_drop (hr.mono (by decide)) (by rfl) Y.g__law_drop Y.F__law_drop.kp Y.b__law_drop .nil pass0 (pa_cons (pv 0) (pa_cons pe_int pa_nil))) (pa_cons (pe_un un_NEG pe_int) pa_nil))))))))) (pe_call G__law_drop (hr.mono (by decide)) (by rfl) Y.g__law_drop Y.F__law_drop.kp Y.b__law_drop .nil pass0 (pa_cons (pv 0) (pa_cons pe_int pa_nil))) (fun _ _ => rfl))) pa_nil))))))))))
    (pss_one (ps_ret (pe_slice sl_SEQ (pv 4) po_none (po_some (pv 3)))))))
def t__law_six (K : PySem.W.Frag)  : TS :=
    (tRet (tBM K "str" rM_rjust2 (tCB rSTR (tCons (tCB rMAX2 (tCons (tC (.int 0)) (tCons (tCB rMIN2 (tCons (tC (.int 999999)) (tCons (tVar 0) tNil))) tNil))) tNil)) (tCons (tC (.int 6)) (tCons (tC (.str "0")) tNil))))
theorem b__law_six (Y : Fx K mg)   {f : Addr} {cdv : Value} {A : Around} {outer : List Env} {s : Shared} {H : Hp} {E : XK} (hr : Room 0 (A.deeper (envOfC "_law_six" (defScope s__law_six) s.heap.objs.size f cdv))) :
    PSs (cxOf CX0 P w K mg base ["_law_number"] "_law_six" (defScope s__law_six) f cdv A outer s H E).nox (defBody s__law_six) (t__law_six K ) :=
    (pss_one (ps_ret (pe_bm PySem.F.plainAttrs_str PySem.F.slot_str_rjust PySem.F.type_str_rjust mt_RJUST2 (pe_callTy call_STR (by rfl) Y.m_str (by decide +kernel) (pa_cons (pe_callB (call_MAX2 rfl) (by rfl) Y.m_max (by decide +kernel) (pa_cons pe_int (pa_cons (pe_callB (call_MIN2 rfl) (by rfl) Y.m_min (by decide +kernel) (pa_cons pe_int (pa_cons (pv 0) pa_nil))) pa_nil))) pa_nil)) (pa_cons pe_int (pa_cons pe_str pa_nil)))))
def t__law_spoilt (K : PySem.W.Frag) (sp__law_drop : PySem.W.Frag → Sp) (sp__law_read : PySem.W.Frag → Sp) (sp__law_six : PySem.W.Frag → Sp) (sp__law_text : PySem.W.Frag → Sp) : TS :=
    (tSeq (tAsg (tTup (tCons (tSl (rSL K) (tVar 1) tNoPart (tPart (tC (.int 6)))) (tCons (tSl (rSL K) (tVar 1) (tPart (tC (.int 6))) (tPart (tC (.int 12)))) (tCons (tSl (rSL K) (tVar 1) (tPart (tC (.int 12))) (tPart (tC (.int 18)))) (tCons (tSl (rSL K) (tVar 1) (tPart (tC (.int 18))) (tPart (tC (.int 19)))) (tCons (tSl (rSL K) (tVar 1) (tPart (tC (.int 19))) tNoPart) tNil)))))) (gTup K 5 (gCons (gName 3) (gCons (gName 4) (gCons (gName 5) (gCons (gName 6) (gCons (gName 7) gNil)))))))
    (tSeq (tPar 8 9 (tCons (tCall (sp__law_drop K) [] E0 (tCons (tVar 0) (tCons (tC (.int 12)) tNil))) (tCons (tOp (rIX K) (tLst (tCons (tC (.int 1)) (tCons (tUn rNEG (tC (.int 1))) (tCons (tCall (sp__law_drop K) [] E0 (tCons (tVar 0) (tCons (tC (.int 30)) tNil))) tNil)))) (tCall (sp__law_drop K) [] E0 (tCons (tVar 0) (tCons (tC (.int 3)) tNil)))) tNil)))
    (Evl.tCut (tIfS (tAnd (tTest (tOp rLT (tVar 8) (tC (.int 3)))) (tTest (tOp (rISN K) (tCall (sp__law_read K) [] E0 (tCons (tVar 1) tNil)) (tC .non)))) (tSeq (tAsg (tLst (tCons (tCB rINT (tCons (tVar 3) tNil)) (tCons (tCB rINT (tCons (tVar 4) tNil)) (tCons (tCB rINT (tCons (tVar 5) tNil)) tNil)))) (gName 10))
      (tSeq (tAsg (tOp (rADD K) (tOp (rIX K) (tVar 10) (tVar 8)) (tVar 9)) (gSub (tVar 10) (tVar 8) rSetL))
      (tRet (tOp (rADD K) (tOp (rADD K) (tBM K "str" (rJoin K) (tC (.str "")) (tCons (tLc (iList K (tVar 10)) (gName 11) tYes (tCall (sp__law_six K) [] E0 (tCons (tVar 11) tNil)) [11]) tNil)) (tVar 6)) (tVar 7))))) tNext)
    (Evl.tCut (tIfS (tTest (tOp (rEQ K) (tVar 8) (tC (.int 3)))) (tAsg (tOp (rIX K) (tLst (tCons (tC (.str ".")) (tCons (tC (.str "+")) tNil))) (tCB rINT (tCons (tOp (rEQ K) (tVar 6) (tC (.str "."))) tNil))) (gName 6)) tNext)
    (Evl.tCut (tIfS (tTest (tOp (rEQ K) (tVar 8) (tC (.int 4)))) (tAsg (tSl (rSL K) (tVar 7) tNoPart (tPart (tUn rNEG (tC (.int 1))))) (gName 7)) tNext)
    (Evl.tCut (tIfS (tTest (tOp (rEQ K) (tVar 8) (tC (.int 5)))) (tAsg (tSl (rSL K) (tOp (rADD K) (tVar 7) (tOp (rMUL K) (tC (.str "x")) (tVar 2))) tNoPart (tPart (tOp rSUB (tVar 2) (tC (.int 19))))) (gName 7)) tNext)
    (Evl.tCut (tIfS (tTest (tOp (rEQ K) (tVar 8) (tC (.int 6)))) (tPar 7 6 (tCons (tSl (rSL K) (tOp (rADD K) (tVar 7) (tOp (rMUL K) (tC (.str "y")) (tVar 2))) tNoPart (tPart (tOp rSUB (tVar 2) (tC (.int 19))))) (tCons (tC (.str "+")) tNil))) tNext)
    (tSeq (tIfS (tTest (tOp (rEQ K) (tVar 8) (tC (.int 7)))) (tRet (tOp (rIX K) (tLst (tCons (tC (.str "")) (tCons (tSl (rSL K) (tVar 1) tNoPart (tPart (tC (.int 18)))) (tCons (tSl (rSL K) (tVar 1) (tPart (tC (.int 1))) tNoPart) (tCons (tOp (rADD K) (tC (.str "H")) (tSl (rSL K) (tVar 1) (tPart (tC (.int 1))) tNoPart)) (tCons (tOp (rADD K) (tC (.str "x")) (tCall (sp__law_text K) [] E0 (tCons (tVar 0) (tCons (tC (.int 40)) tNil)))) tNil)))))) (tCall (sp__law_drop K) [] E0 (tCons (tVar 0) (tCons (tC (.int 5)) tNil))))) tNext)
    (Evl.tCut (tIfS (tTest (tOp (rEQ K) (tVar 8) (tC (.int 8)))) (tAsg (tOp (rIX K) (tC (.str "-*,/0 ")) (tCall (sp__law_drop K) [] E0 (tCons (tVar 0) (tCons (tC (.int 6)) tNil)))) (gName 6)) tNext)
    (Evl.tCut (tIfS (tTest (tOp (rEQ K) (tVar 8) (tC (.int 9)))) (tAsg (tCall (sp__law_six K) [] E0 (tCons (tOp (rADD K) (tC (.int 500000)) (tCall (sp__law_drop K) [] E0 (tCons (tVar 0) (tCons (tC (.int 1000)) tNil)))) tNil)) (gName 5)) tNext)
    (tSeq (tIfS (tTest (tOp (rEQ K) (tVar 8) (tC (.int 10)))) (tSeq (tAsg (tCall (sp__law_drop K) [] E0 (tCons (tVar 0) (tCons (tC (.int 18)) tNil))) (gName 12))
      (tRet (tOp (rADD K) (tOp (rADD K) (tSl (rSL K) (tVar 1) tNoPart (tPart (tVar 12))) (tOp (rIX K) (tC (.str " +-_x/:")) (tCall (sp__law_drop K) [] E0 (tCons (tVar 0) (tCons (tC (.int 7)) tNil))))) (tSl (rSL K) (tVar 1) (tPart (tOp (rADD K) (tVar 12) (tC (.int 1)))) tNoPart)))) tNext)
    (Evl.tCut (tIfS (tTest (tOp (rEQ K) (tVar 8) (tC (.int 11)))) (tAsg (tC (.str "")) (gName 7)) tNext)
    (tRet (tOp (rADD K) (tOp (rADD K) (tOp (rADD K) (tOp (rADD K) (tVar 3) (tVar 4)) (tVar 5)) (tVar 6)) (tVar 7)))))))))))))))
theorem b__law_spoilt (Y : Fx K mg) {sp__law_drop : PySem.W.Frag → Sp} {sp__law_read : PySem.W.Frag → Sp} {sp__law_six : PySem.W.Frag → Sp} {sp__law_text : PySem.W.Frag → Sp} (G__law_drop : FnOk P w K mg base CX0 1 Y.a__law_drop Y.fd__law_drop ["_law_spring_here", "_law_many"] (sp__law_drop K)) (G__law_read : FnOk P w K mg base CX0 1 Y.a__law_read Y.fd__law_read ["_law_block"] (sp__law_read K)) (G__law_six : FnOk P w K mg base CX0 1 Y.a__law_six Y.fd__law_six ["_law_number"] (sp__law_six K)) (G__law_text : FnOk P w K mg base CX0 2 Y.a__law_text Y.fd__law_text ["_law_spring_here", "_law_size"] (sp__law_text K)) {f : Addr} {cdv : Value} {A : Around} {outer : List Env} {s : Shared} {H : Hp} {E : XK} (hr : Room 2 (A.deeper (envOfC "_law_spoilt" (defScope s__law_spoilt) s.heap.objs.size f cdv))) :
    PSs (cxOf CX0 P w K mg base ["_law_spring_here", "_law_block", "_law_signs", "_law_age", "_law_number", "_law_writer", "_law_sign", "_law_part", "_law_way", "_law_step", "_law_numbers", "_law_one", "_law_at"] "_law_spoilt" (defScope s__law_spoilt) f cdv A outer s H E).nox (defBody s__law_spoilt) (t__law_spoilt K sp__law_drop sp__law_read sp__law_six sp__law_text) :=
    (pss_cons (ps_asg (pe_tup (pa_cons (pe_slice sl_SEQ (pv 1) po_none (po_some pe_int)) (pa_cons (pe_slice sl_SEQ (pv 1) (po_some pe_int) (po_some pe_int)) (pa_cons (pe_slice sl_SEQ (pv 1) (po_some pe_int) (po_some pe_int)) (pa_cons (pe_slice sl_SEQ (pv 1) (po_some pe_int) (po_some pe_int)) (pa_cons (pe_slice sl_SEQ (pv 1) (po_some pe_int) po_none) pa_nil)))))) (pg_tup rfl (pgs_cons (pg_name (i := 3) sc__law_spoilt.nd rfl (Or.inl rfl)) (pgs_cons (pg_name (i := 4) sc__law_spoilt.nd rfl (Or.inl rfl)) (pgs_cons (pg_name (i := 5) sc__law_spoilt.nd rfl (Or.inl rfl)) (pgs_cons (pg_name (i := 6) sc__law_spoilt.nd rfl (Or.inl rfl)) (pgs_cons (pg_name (i := 7) sc__law_spoilt.nd rfl (Or.inl rfl)) pgs_nil)))))))
    (pss_cons (ps_par (i := 8) (j := 9) (by rfl) sc__law_spoilt.nd rfl rfl (by decide) rfl rfl (pa_cons (pe_call G__law_drop (hr.mono (by decide)) (by rfl) Y.g__law_drop Y.F__law_drop.kp Y.b__law_drop .nil pass0 (pa_cons (pv 0) (pa_cons pe_int pa_nil))) (pa_cons (pe_ix ix_SEQ (pe_lst (pa_cons pe_int (pa_cons (pe_un un_NEG pe_int) (pa_cons (pe_call G__law_drop (hr.mono (by decide)) (by rfl) Y.g__law_drop Y.F__law_drop.kp Y.b__law_drop .nil pass0 (pa_cons (pv 0) (pa_cons pe_int pa_nil))) pa_nil)))) (pe_call G__law_drop (hr.mono (by decide)) (by rfl) Y.g__law_drop Y.F__law_drop.kp Y.b__law_drop .nil pass0 (pa_cons (pv 0) (pa_cons pe_int pa_nil))) (fun _ _ => rfl)) pa_nil)) (by rfl))
    (Evl.pss_cut (ps_if (PW.pt (pw_and (pt_cmpR op_LT (pv 8) pe_int (nomark _)) (pw_and1 (pt_cmpR op_ISN (pe_call G__law_read (hr.mono (by decide)) (by rfl) Y.g__law_read Y.F__law_read.kp Y.b__law_read .nil pass0 (pa_cons (pv 1) pa_nil)) pe_non (nomark _))))) (pss_cons (ps_set (i := 10) sc__law_spoilt.nd rfl (Or.inl rfl) (pe_lst (pa_cons (pe_callTy call_INT (by rfl) Y.m_int (by decide +kernel) (pa_cons (pv 3) pa_nil)) (pa_cons (pe_callTy call_INT (by rfl) Y.m_int (by decide +kernel) (pa_cons (pv 4) pa_nil)) (pa_cons (pe_callTy call_INT (by rfl) Y.m_int (by decide +kernel) (pa_cons (pv 5) pa_nil)) pa_nil)))))
      (pss_cons (ps_asg (pe_op op_ADD (pe_ix ix_SEQ (pv 10) (pv 8) (fun _ _ => rfl)) (pv 9)) (pg_sub (pv 10) (pv 8) set_list))
      (pss_one (ps_ret (pe_op op_ADD (pe_op op_ADD (pe_bm PySem.F.plainAttrs_str PySem.F.slot_str_join PySem.F.type_str_join mt_join pe_str (pa_cons (pe_lc (own := [("_law_one", 11)]) (by rfl) sc__law_spoilt.nd (pi_list (pv 10)) (blkOk_by (own := [("_law_one", 11)]) (N := ["_law_spring_here", "_law_block", "_law_signs", "_law_age", "_law_number", "_law_writer", "_law_sign", "_law_part", "_law_way", "_law_step", "_law_numbers", "_law_one", "_law_at"]) (sc := defScope s__law_spoilt) (by decide +kernel)) (fun _ _ _ _ _ => (pg_name (i := 11) sc__law_spoilt.nd rfl (Or.inl rfl))) (fun _ _ _ _ _ => pts_nil) (fun _ _ _ _ _ => (pe_call G__law_six (hr.mono (by decide)) (by rfl) Y.g__law_six Y.F__law_six.kp Y.b__law_six .nil pass0 (pa_cons (pv 11) pa_nil)))) pa_nil)) (pv 6)) (pv 7)))))) pss_nil)
    (Evl.pss_cut (ps_if (pt_cmpR (op_EQ (hu_64 hr)) (pv 8) pe_int (nomark _)) (pss_one (ps_set (i := 6) sc__law_spoilt.nd rfl (Or.inl rfl) (pe_ix ix_SEQ (pe_lst (pa_cons pe_str (pa_cons pe_str pa_nil))) (pe_callTy call_INT (by rfl) Y.m_int (by decide +kernel) (pa_cons (pe_cmpR (op_EQ (hu_64 hr)) (pv 6) pe_str (nomark _)) pa_nil)) (fun _ _ => rfl)))) pss_nil)
    (Evl.pss_cut (ps_if (pt_cmpR (op_EQ (hu_64 hr)) (pv 8) pe_int (nomark _)) (pss_one (ps_set (i := 7) sc__law_spoilt.nd rfl (Or.inl rfl) (pe_slice sl_SEQ (pv 7) po_none (po_some (pe_un un_NEG pe_int))))) pss_nil)
    (Evl.pss_cut (ps_if (pt_cmpR (op_EQ (hu_64 hr)) (pv 8) pe_int (nomark _)) (pss_one (ps_set (i := 7) sc__law_spoilt.nd rfl (Or.inl rfl) (pe_slice sl_SEQ (pe_op op_ADD (pv 7) (pe_op op_MUL pe_str (pv 2))) po_none (po_some (pe_op op_SUB (pv 2) pe_int))))) pss_nil)
    (Evl.pss_cut (ps_if (pt_cmpR (op_EQ (hu_64 hr)) (pv 8) pe_int (nomark _)) (pss_one (ps_par (i := 7) (j := 6) (by rfl) sc__law_spoilt.nd rfl rfl (by decide) rfl rfl (pa_cons (pe_slice sl_SEQ (pe_op op_ADD (pv 7) (pe_op op_MUL pe_str (pv 2))) po_none (po_some (pe_op op_SUB (pv 2) pe_int))) (pa_cons pe_str pa_nil)) (by rfl))) pss_nil)
    (pss_cons (ps_if (pt_cmpR (op_EQ (hu_64 hr)) (pv 8) pe_int (nomark _)) (pss_one (ps_ret (pe_ix ix_SEQ (pe_lst (pa_cons pe_str (pa_cons (pe_slice sl_SEQ (pv 1) po_none (po_some pe_int)) (pa_cons (pe_slice sl_SEQ (pv 1) (po_some pe_int) po_none) (pa_cons (pe_op op_ADD pe_str (pe_slice sl_SEQ (pv 1) (po_some pe_int) po_none)) (pa_cons (pe_op op_ADD pe_str (pe_call G__law_text (hr.mono (by decide)) (by rfl) Y.g__law_text Y.F__law_text.kp Y.b__law_text .nil pass0 (pa_cons (pv 0) (pa_cons pe_int pa_nil)))) pa_nil)))))) (pe_call G__law_drop (hr.mono (by decide)) (by rfl) Y.g__law_drop Y.F__law_drop.kp Y.b__law_drop .nil pass0 (pa_cons (pv 0) (pa_cons pe_int pa_nil))) (fun _ _ => rfl)))) pss_nil)
    (Evl.pss_cut (ps_if (pt_cmpR (op_EQ (hu_64 hr)) (pv 8) pe_int (nomark _)) (pss_one (ps_set (i := 6) sc__law_spoilt.nd rfl (Or.inl rfl) (pe_ix ix_SEQ pe_str (pe_call G__law_drop (hr.mono (by decide)) (by rfl) Y.g__law_drop Y.F__law_drop.kp Y.b__law_drop .nil pass0 (pa_cons (pv 0) (pa_cons pe_int pa_nil))) (fun _ _ => rfl)))) pss_nil)
    (Evl.pss_cut (ps_if (pt_cmpR (op_EQ (hu_64 hr)) (pv 8) pe_int (nomark _)) (pss_one (ps_set (i := 5) sc__law_spoilt.nd rfl (Or.inl rfl) (pe_call G__law_six (hr.mono (by decide)) (by rfl) Y.g__law_six Y.F__law_six.kp Y.b__law_six .nil pass0 (pa_cons (pe_op op_ADD pe_int (pe_call G__law_drop (hr.mono (by decide)) (by rfl) Y.g__law_drop Y.F__law_drop.kp Y.b__law_drop .nil pass0 (pa_cons (pv 0) (pa_cons pe_int pa_nil)))) pa_nil)))) pss_nil)
    (pss_cons (ps_if (pt_cmpR (op_EQ (hu_64 hr)) (pv 8) pe_int (nomark _)) (pss_cons (ps_set (i := 12) sc__law_spoilt.nd rfl (Or.inl rfl) (pe_call G__law_drop (hr.mono (by decide)) (by rfl) Y.g__law_drop Y.F__law_drop.kp Y.b__law_drop .nil pass0 (pa_cons (pv 0) (pa_cons pe_int pa_nil))))
      (pss_one (ps_ret (pe_op op_ADD (pe_op op_ADD (pe_slice sl_SEQ (pv 1) po_none (po_some (pv 12))) (pe_ix ix_SEQ pe_str (pe_call G__law_drop (hr.mono (by decide)) (by rfl) Y.g__law_drop Y.F__law_drop.kp Y.b__law_drop .nil pass0 (pa_cons (pv 0) (pa_cons pe_int pa_nil))) (fun _ _ => rfl))) (pe_slice sl_SEQ (pv 1) (po_some (pe_op op_ADD (pv 12) pe_int)) po_none))))) pss_nil)
    (Evl.pss_cut (ps_if (pt_cmpR (op_EQ (hu_64 hr)) (pv 8) pe_int (nomark _)) (pss_one (ps_set (i := 7) sc__law_spoilt.nd rfl (Or.inl rfl) pe_str)) pss_nil)
    (pss_one (ps_ret (pe_op op_ADD (pe_op op_ADD (pe_op op_ADD (pe_op op_ADD (pv 3) (pv 4)) (pv 5)) (pv 6)) (pv 7))))))))))))))))
def t_law (K : PySem.W.Frag) (sp__law_alike : PySem.W.Frag → Sp) (sp__law_area : PySem.W.Frag → Sp) (sp__law_drop : PySem.W.Frag → Sp) (sp__law_piece : PySem.W.Frag → Sp) (sp__law_spoilt : PySem.W.Frag → Sp) (sp__law_spring : PySem.W.Frag → Sp) (sp__law_told : PySem.W.Frag → Sp) (sp_told_log : PySem.W.Frag → Sp) : TS :=
    (tSeq (tAsg (tCall (sp__law_spring K) [] E0 (tCons (tVar 0) tNil)) (gName 1))
    (tSeq (tFor (iRng1 (tCons (tC (.int 3)) tNil)) (gName 2) (tSeq (tAsg (tOp (rIX K) (tLst (tCons (tC (.int 100)) (tCons (tC (.int 101)) (tCons (tOp (rADD K) (tC (.int 100)) (tCall (sp__law_drop K) [] E0 (tCons (tVar 1) (tCons (tC (.int 901)) tNil)))) tNil)))) (tCB rMAX2 (tCons (tC (.int 0)) (tCons (tOp rSUB (tCall (sp__law_drop K) [] E0 (tCons (tVar 1) (tCons (tC (.int 9)) tNil))) (tC (.int 6))) tNil)))) (gName 3))
      (tSeq (tAsg (tOp (rADD K) (tC (.int 1)) (tCall (sp__law_drop K) [] E0 (tCons (tVar 1) (tCons (tOp (rIX K) (tLst (tCons (tC (.int 8)) (tCons (tC (.int 30)) (tCons (tC (.int 197)) tNil)))) (tCB rMAX2 (tCons (tC (.int 0)) (tCons (tOp rSUB (tCall (sp__law_drop K) [] E0 (tCons (tVar 1) (tCons (tC (.int 9)) tNil))) (tC (.int 6))) tNil)))) tNil)))) (gName 4))
      (Evl.tCut (tIfS (tTest (tOp rGT (tVar 3) (tC (.int 101)))) (tAsg (tCB rMIN2 (tCons (tVar 4) (tCons (tC (.int 20)) tNil))) (gName 4)) tNext)
      (tSeq (tAsg (tOp (rIX K) (tLst (tCons (tC (.int 0)) (tCons (tC (.int 1)) (tCons (tC (.int 7)) (tCons (tCall (sp__law_drop K) [] E0 (tCons (tVar 1) (tCons (tC (.int 1000)) tNil))) (tCons (tC (.int 999999)) tNil)))))) (tCall (sp__law_drop K) [] E0 (tCons (tVar 1) (tCons (tC (.int 5)) tNil)))) (gName 5))
      (tSeq (tAsg (tCall (sp__law_area K) [] E0 (tCons (tVar 1) (tCons (tVar 3) (tCons (tVar 5) (tCons (tVar 4) tNil))))) (gName 6))
      (tSeq (tFor (iRng1 (tCons (tCall (sp__law_drop K) [] E0 (tCons (tVar 1) (tCons (tC (.int 5)) tNil))) tNil)) (gName 7) (tSeq (tAsg (tCall (sp__law_drop K) [] E0 (tCons (tVar 1) (tCons (tVar 4) tNil))) (gName 13))
        (tAsg (tCall (sp__law_spoilt K) [] E0 (tCons (tVar 1) (tCons (tOp (rIX K) (tVar 6) (tVar 13)) (tCons (tVar 3) tNil)))) (gSub (tVar 6) (tVar 13) rSetL))))
      (tSeq (tAsg (tCall (sp__law_drop K) [] E0 (tCons (tVar 1) (tCons (tCB rMIN2 (tCons (tC (.int 5)) (tCons (tOp rSUB (tC (.int 201)) (tVar 4)) tNil))) tNil))) (gName 8))
      (tSeq (tAsg (tLc (iRng1 (tCons (tVar 8) tNil)) (gName 7) tYes (tCall (sp__law_piece K) [] E0 (tCons (tVar 5) (tCons (tVar 7) (tCons (tC (.int 600000)) (tCons (tC (.str ".")) (tCons (tC (.str "beside")) tNil)))))) [7]) (gName 9))
      (tSeq (tAsg (tLc (iRng1 (tCons (tCB rMAX2 (tCons (tC (.int 0)) (tCons (tOp rSUB (tOp rSUB (tC (.int 4)) (tVar 8)) (tVar 4)) tNil))) tNil)) (gName 7) tYes (tCall (sp__law_piece K) [] E0 (tCons (tVar 5) (tCons (tOp (rADD K) (tVar 4) (tVar 7)) (tCons (tC (.int 600001)) (tCons (tC (.str ".")) (tCons (tC (.str "behind")) tNil)))))) [7]) (gName 10))
      (tSeq (tAsg (tCB (rTUPLE K) (tCons (tOp (rADD K) (tOp (rADD K) (tVar 9) (tVar 6)) (tVar 10)) tNil)) (gName 11))
      (tSeq (tFor (iList K (tLst (tCons (tTup (tCons (tVar 4) (tCons (tVar 5) tNil))) (tCons (tTup (tCons (tOp (rADD K) (tC (.int 1)) (tCall (sp__law_drop K) [] E0 (tCons (tVar 1) (tCons (tVar 4) tNil)))) (tCons (tVar 5) tNil))) (tCons (tTup (tCons (tVar 4) (tCons (tOp (rIX K) (tLst (tCons (tC (.int 1)) (tCons (tOp rSUB (tVar 5) (tC (.int 1))) tNil))) (tCB rINT (tCons (tOp rGT (tVar 5) (tC (.int 0))) tNil))) tNil))) tNil))))) (gTup K 2 (gCons (gName 15) (gCons (gName 16) gNil))) (tSeq (tAsg (tCall (sp__law_told K) [] E0 (tCons (tSl (rSL K) (tVar 6) tNoPart (tPart (tVar 15))) (tCons (tVar 3) (tCons (tVar 16) tNil)))) (gName 17))
        (tSeq (tAsg (tLst (tCons (tCall (sp_told_log K) [] E0 (tCons (tVar 11) (tCons (tVar 3) (tCons (tVar 8) (tCons (tVar 15) (tCons (tVar 16) tNil)))))) tNil)) (gName 18))
        (tSeq (tAsg (tOp (rADD K) (tVar 18) (tLst (tCons (tCallK0 (sp_told_log K) gV_kb_told_log_0 E0 (tCons (tVar 16) (tCons (tVar 15) (tCons (tVar 8) (tCons (tVar 3) (tCons (tVar 11) tNil)))))) tNil))) (gName 18))
        (tIfS (tNot (tTru1 K (tCall (sp__law_alike K) [] E0 (tCons (tVar 18) (tCons (tLst (tCons (tVar 17) (tCons (tVar 17) tNil))) tNil))))) (tRet (tC (.bl false))) tNext)))))
      (tSeq (tAsg (tCB rMIN2 (tCons (tC (.int 1000)) (tCons (tOp (rADD K) (tOp (rADD K) (tVar 3) (tC (.int 1))) (tCall (sp__law_drop K) [] E0 (tCons (tVar 1) (tCons (tC (.int 40)) tNil)))) tNil))) (gName 12))
      (tSeq (tIfS (tNot (tTru1 K (tCall (sp__law_alike K) [] E0 (tCons (tCall (sp_told_log K) [] E0 (tCons (tVar 11) (tCons (tVar 12) (tCons (tVar 8) (tCons (tVar 4) (tCons (tVar 5) tNil)))))) (tCons (tCall (sp__law_told K) [] E0 (tCons (tVar 6) (tCons (tVar 12) (tCons (tVar 5) tNil)))) tNil))))) (tRet (tC (.bl false))) tNext)
      (tSeq (tAsg (tCall (sp__law_drop K) [] E0 (tCons (tVar 1) (tCons (tVar 4) tNil))) (gName 13))
      (tSeq (tAsg (tCall (sp__law_told K) [] E0 (tCons (tSl (rSL K) (tVar 6) (tPart (tVar 13)) tNoPart) (tCons (tVar 3) (tCons (tVar 5) tNil)))) (gName 14))
      (tIfS (tNot (tTru1 K (tCall (sp__law_alike K) [] E0 (tCons (tCall (sp_told_log K) [] E0 (tCons (tVar 11) (tCons (tVar 3) (tCons (tOp (rADD K) (tVar 8) (tVar 13)) (tCons (tOp rSUB (tVar 4) (tVar 13)) (tCons (tVar 5) tNil)))))) (tCons (tVar 14) tNil))))) (tRet (tC (.bl false))) tNext)))))))))))))))))
    (tRet (tC (.bl true)))))
theorem b_law (Y : Fx K mg) {sp__law_alike : PySem.W.Frag → Sp} {sp__law_area : PySem.W.Frag → Sp} {sp__law_drop : PySem.W.Frag → Sp} {sp__law_piece : PySem.W.Frag → Sp} {sp__law_spoilt : PySem.W.Frag → Sp} {sp__law_spring : PySem.W.Frag → Sp} {sp__law_told : PySem.W.Frag → Sp} {sp_told_log : PySem.W.Frag → Sp} (G__law_alike : FnOk P w K mg base CX0 5 Y.a__law_alike Y.fd__law_alike ["_law_found", "_law_due"] (sp__law_alike K)) (G__law_area : FnOk P w K mg base CX0 3 Y.a__law_area Y.fd__law_area ["_law_spring_here", "_law_signs", "_law_age", "_law_count"] (sp__law_area K)) (G__law_drop : FnOk P w K mg base CX0 1 Y.a__law_drop Y.fd__law_drop ["_law_spring_here", "_law_many"] (sp__law_drop K)) (G__law_piece : FnOk P w K mg base CX0 1 Y.a__law_piece Y.fd__law_piece ["_law_age", "_law_number", "_law_writer", "_law_sign", "_law_part"] (sp__law_piece K)) (G__law_spoilt : FnOk P w K mg base CX0 3 Y.a__law_spoilt Y.fd__law_spoilt ["_law_spring_here", "_law_block", "_law_signs"] (sp__law_spoilt K)) (G__law_spring : FnOk P w K mg base CX0 1 Y.a__law_spring Y.fd__law_spring ["_law_script"] (sp__law_spring K)) (G__law_told : FnOk P w K mg base CX0 2 Y.a__law_told Y.fd__law_told ["_law_blocks", "_law_signs", "_law_age"] (sp__law_told K)) (G_told_log : FnOk P w K mg base CX0 5 Y.a_told_log Y.fd_told_log ["image", "signs", "first", "count", "age"] (sp_told_log K)) {f : Addr} {cdv : Value} {A : Around} {outer : List Env} {s : Shared} {H : Hp} {E : XK} (hr : Room 5 (A.deeper (envOfC "law" (defScope s_law) s.heap.objs.size f cdv))) :
    PSs (cxOf CX0 P w K mg base ["_law_script", "_law_spring_here", "_law_turn", "_law_signs", "_law_count", "_law_age", "_law_blocks", "_law_k", "_law_first", "_law_beside", "_law_behind", "_law_image", "_law_wide", "_law_at", "_law_part", "_law_many", "_law_other", "_law_due", "_law_told_here"] "law" (defScope s_law) f cdv A outer s H E).nox (defBody s_law) (t_law K sp__law_alike sp__law_area sp__law_drop sp__law_piece sp__law_spoilt sp__law_spring sp__law_told sp_told_log) :=
    (pss_cons (ps_set (i := 1) sc_law.nd rfl (Or.inl rfl) (pe_call G__law_spring (hr.mono (by decide)) (by rfl) Y.g__law_spring Y.F__law_spring.kp Y.b__law_spring .nil pass0 (pa_cons (pv 0) pa_nil)))
    (pss_cons (ps_for PassesOwn.never rfl (pi_range1 (by rfl) Y.m_range (pa_cons pe_int pa_nil)) (pg_name (i := 2) sc_law.nd rfl (Or.inl rfl)) (pss_cons (ps_set (i := 3) sc_law.nd rfl (Or.inl rfl) (pe_ix ix_SEQ (pe_lst (pa_cons pe_int (pa_cons pe_int (pa_cons (pe_op op_ADD pe_int (pe_call G__law_drop (hr.mono (by decide)) (by rfl) Y.g__law_drop Y.F__law_drop.kp Y.b__law_drop .nil pass0 (pa_cons (pv 1) (pa_cons pe_int pa_nil)))) pa_nil)))) (pe_callB (call_MAX2 rfl) (by rfl) Y.m_max (by decide +kernel) (pa_cons pe_int (pa_cons (pe_op op_SUB (pe_call G__law_drop (hr.mono (by decide)) (by rfl) Y.g__law_drop Y.F__law_drop.kp Y.b__law_drop .nil pass0 (pa_cons (pv 1) (pa_cons pe_int pa_nil))) pe_int) pa_nil))) (fun _ _ => rfl)))
      (pss_cons (ps_set (i := 4) sc_law.nd rfl (Or.inr rfl) (pe_op op_ADD pe_int (pe_call G__law_drop (hr.mono (by decide)) (by rfl) Y.g__law_drop Y.F__law_drop.kp Y.b__law_drop .nil pass0 (pa_cons (pv 1) (pa_cons (pe_ix ix_SEQ (pe_lst (pa_cons pe_int (pa_cons pe_int (pa_cons pe_int pa_nil)))) (pe_callB (call_MAX2 rfl) (by rfl) Y.m_max (by decide +kernel) (pa_cons pe_int (pa_cons (pe_op op_SUB (pe_call G__law_drop (hr.mono (by decide)) (by rfl) Y.g__law_drop Y.F__law_drop.kp Y.b__law_drop .nil pass0 (pa_cons (pv 1) (pa_cons pe_int pa_nil))) pe_int) pa_nil))) (fun _ _ => rfl)) pa_nil)))))
      (Evl.pss_cut (ps_if (pt_cmpR op_GT (pv 3) pe_int (nomark _)) (pss_one (ps_set (i := 4) sc_law.nd rfl (Or.inr rfl) (pe_callB (call_MIN2 rfl) (by rfl) Y.m_min (by decide +kernel) (pa_cons (pv 4) (pa_cons pe_int pa_nil))))) pss_nil)
      (pss_cons (ps_set (i := 5) sc_law.nd rfl (Or.inr rfl) (pe_ix ix_SEQ (pe_lst (pa_cons pe_int (pa_cons pe_int (pa_cons pe_int (pa_cons (pe_call G__law_drop (hr.mono (by decide)) (by rfl) Y.g__law_drop Y.F__law_drop.kp Y.b__law_drop .nil pass0 (pa_cons (pv 1) (pa_cons pe_int pa_nil))) (pa_cons pe_int pa_nil)))))) (pe_call G__law_drop (hr.mono (by decide)) (by rfl) Y.g__law_drop Y.F__law_drop.kp Y.b__law_drop .nil pass0 (pa_cons (pv 1) (pa_cons pe_int pa_nil))) (fun _ _ => rfl)))
      (pss_cons (ps_set (i := 6) sc_law.nd rfl (Or.inl rfl) (pe_call G__law_area (hr.mono (by decide)) (by rfl) Y.g__law_area Y.F__law_area.kp Y.b__law_area .nil pass0 (pa_cons (pv 1) (pa_cons (pv 3) (pa_cons (pv 5) (pa_cons (pv 4) pa_nil))))))
      (pss_cons (ps_for PassesOwn.never rfl (pi_range1 (by rfl) Y.m_range (pa_cons (pe_call G__law_drop (hr.mono (by decide)) (by rfl) Y.g__law_drop Y.F__law_drop.kp Y.b__law_drop .nil pass0 (pa_cons (pv 1) (pa_cons pe_int pa_nil))) pa_nil)) (pg_name (i := 7) sc_law.nd rfl (Or.inl rfl)) (pss_cons (ps_set (i := 13) sc_law.nd rfl (Or.inl rfl) (pe_call G__law_drop (hr.mono (by decide)) (by rfl) Y.g__law_drop Y.F__law_drop.kp Y.b__law_drop .nil pass0 (pa_cons (pv 1) (pa_cons (pv 4) pa_nil))))
        (pss_one (ps_asg (pe_call G__law_spoilt (hr.mono (by decide)) (by rfl) Y.g__law_spoilt Y.F__law_spoilt.kp Y.b__law_spoilt .nil pass0 (pa_cons (pv 1) (pa_cons (pe_ix ix_SEQ (pv 6) (pv 13) (fun _ _ => rfl)) (pa_cons (pv 3) pa_nil)))) (pg_sub (pv 6) (pv 13) set_list)))))
      (pss_cons (ps_set (i := 8) sc_law.nd rfl (Or.inl rfl) (pe_call G__law_drop (hr.mono (by decide)) (by rfl) Y.g__law_drop Y.F__law_drop.kp Y.b__law_drop .nil pass0 (pa_cons (pv 1) (pa_cons (pe_callB (call_MIN2 rfl) (by rfl) Y.m_min (by decide +kernel) (pa_cons pe_int (pa_cons (pe_op op_SUB pe_int (pv 4)) pa_nil))) pa_nil))))
      (pss_cons (ps_setLc (i := 9) (own := [("_law_k", 7)]) (by rfl) sc_law.nd rfl rfl (sw_true rfl rfl rfl (by decide +kernel)) (pi_range1 (by rfl) Y.m_range (pa_cons (pv 8) pa_nil)) (blkOk_by (own := [("_law_k", 7)]) (N := ["_law_script", "_law_spring_here", "_law_turn", "_law_signs", "_law_count", "_law_age", "_law_blocks", "_law_k", "_law_first", "_law_beside", "_law_behind", "_law_image", "_law_wide", "_law_at", "_law_part", "_law_many", "_law_other", "_law_due", "_law_told_here"]) (sc := defScope s_law) (by decide +kernel)) (fun _ _ _ _ _ => (pg_name (i := 7) sc_law.nd rfl (Or.inl rfl))) (fun _ _ _ _ _ => pts_nil) (fun _ _ _ _ _ => (pe_call G__law_piece (hr.mono (by decide)) (by rfl) Y.g__law_piece Y.F__law_piece.kp Y.b__law_piece .nil pass0 (pa_cons (pv 5) (pa_cons (pv 7) (pa_cons pe_int (pa_cons pe_str (pa_cons pe_str pa_nil))))))))
      (pss_cons (ps_setLc (i := 10) (own := [("_law_k", 7)]) (by rfl) sc_law.nd rfl rfl (sw_true rfl rfl rfl (by decide +kernel)) (pi_range1 (by rfl) Y.m_range (pa_cons (pe_callB (call_MAX2 rfl) (by rfl) Y.m_max (by decide +kernel) (pa_cons pe_int (pa_cons (pe_op op_SUB (pe_op op_SUB pe_int (pv 8)) (pv 4)) pa_nil))) pa_nil)) (blkOk_by (own := [("_law_k", 7)]) (N := ["_law_script", "_law_spring_here", "_law_turn", "_law_signs", "_law_count", "_law_age", "_law_blocks", "_law_k", "_law_first", "_law_beside", "_law_behind", "_law_image", "_law_wide", "_law_at", "_law_part", "_law_many", "_law_other", "_law_due", "_law_told_here"]) (sc := defScope s_law) (by decide +kernel)) (fun _ _ _ _ _ => (pg_name (i := 7) sc_law.nd rfl (Or.inl rfl))) (fun _ _ _ _ _ => pts_nil) (fun _ _ _ _ _ => (pe_call G__law_piece (hr.mono (by decide)) (by rfl) Y.g__law_piece Y.F__law_piece.kp Y.b__law_piece .nil pass0 (pa_cons (pv 5) (pa_cons (pe_op op_ADD (pv 4) (pv 7)) (pa_cons pe_int (pa_cons pe_str (pa_cons pe_str pa_nil))))))))
      (pss_cons (ps_set (i := 11) sc_law.nd rfl (Or.inl rfl) (pe_callTy call_TUPLE (by rfl) Y.m_tuple (by decide +kernel) (pa_cons (pe_op op_ADD (pe_op op_ADD (pv 9) (pv 6)) (pv 10)) pa_nil)))
      (pss_cons (ps_for PassesOwn.never rfl (pi_list (pe_lst (pa_cons (pe_tup (pa_cons (pv 4) (pa_cons (pv 5) pa_nil))) (pa_cons (pe_tup (pa_cons (pe_op op_ADD pe_int (pe_call G__law_drop (hr.mono (by decide)) (by rfl) Y.g__law_drop Y.F__law_drop.kp Y.b__law_drop .nil pass0 (pa_cons (pv 1) (pa_cons (pv 4) pa_nil)))) (pa_cons (pv 5) pa_nil))) (pa_cons (pe_tup (pa_cons (pv 4) (pa_cons (pe_ix ix_SEQ (pe_lst (pa_cons pe_int (pa_cons (pe_op op_SUB (pv 5) pe_int) pa_nil))) (pe_callTy call_INT (by rfl) Y.m_int (by decide +kernel) (pa_cons (pe_cmpR op_GT (pv 5) pe_int (nomark _)) pa_nil)) (fun _ _ => rfl)) pa_nil))) pa_nil))))) (pg_tup rfl (pgs_cons (pg_name (i := 15) sc_law.nd rfl (Or.inl rfl)) (pgs_cons (pg_name (i := 16) sc_law.nd rfl (Or.inl rfl)) pgs_nil))) (pss_cons (ps_set (i := 17) sc_law.nd rfl (Or.inl rfl) (pe_call G__law_told (hr.mono (by decide)) (by rfl) Y.g__law_told Y.F__law_told.kp Y.b__law_told .nil pass0 (pa_cons (pe_slice sl_SEQ (pv 6) po_none (po_some (pv 15))) (pa_cons (pv 3) (pa_cons (pv 16) pa_nil)))))
        (pss_cons (ps_set (i := 18) sc_law.nd rfl (Or.inl rfl) (pe_lst (pa_cons (pe_call G_told_log (hr.mono (by decide)) (by rfl) Y.g_told_log Y.F_told_log.kp Y.b_told_log .nil pass0 (pa_cons (pv 11) (pa_cons (pv 3) (pa_cons (pv 8) (pa_cons (pv 15) (pa_cons (pv 16) pa_nil)))))) pa_nil)))
        (pss_cons (ps_set (i := 18) sc_law.nd rfl (Or.inl rfl) (pe_op op_ADD (pv 18) (pe_lst (pa_cons (pe_callK0 G_told_log (hr.mono (by decide)) (by rfl) Y.g_told_log Y.F_told_log.kp Y.kb_told_log_0 pass0 (pk_cons (pv 16) (pk_cons (pv 15) (pk_cons (pv 8) (pk_cons (pv 3) (pk_cons (pv 11) pk_nil)))))) pa_nil))))
        (pss_one (ps_if (pt_not (pt_tru (pe_call G__law_alike (hr.mono (by decide)) (by rfl) Y.g__law_alike Y.F__law_alike.kp Y.b__law_alike .nil pass0 (pa_cons (pv 18) (pa_cons (pe_lst (pa_cons (pv 17) (pa_cons (pv 17) pa_nil))) pa_nil))) (by intro _; rfl))) (pss_one (ps_ret pe_bl)) pss_nil))))))
      (pss_cons (ps_set (i := 12) sc_law.nd rfl (Or.inl rfl) (pe_callB (call_MIN2 rfl) (by rfl) Y.m_min (by decide +kernel) (pa_cons pe_int (pa_cons (pe_op op_ADD (pe_op op_ADD (pv 3) pe_int) (pe_call G__law_drop (hr.mono (by decide)) (by rfl) Y.g__law_drop Y.F__law_drop.kp Y.b__law_drop .nil pass0 (pa_cons (pv 1) (pa_cons pe_int pa_nil)))) pa_nil))))
      (pss_cons (ps_if (pt_not (pt_tru (pe_call G__law_alike (hr.mono (by decide)) (by rfl) Y.g__law_alike Y.F__law_alike.kp Y.b__law_alike .nil pass0 (pa_cons (pe_call G_told_log (hr.mono (by decide)) (by rfl) Y.g_told_log Y.F_told_log.kp Y.b_told_log .nil pass0 (pa_cons (pv 11) (pa_cons (pv 12) (pa_cons (pv 8) (pa_cons (pv 4) (pa_cons (pv 5) pa_nil)))))) (pa_cons (pe_call G__law_told (hr.mono (by decide)) (by rfl) Y.g__law_told Y.F__law_told.kp Y.b__law_told .nil pass0 (pa_cons (pv 6) (pa_cons (pv 12) (pa_cons (pv 5) pa_nil)))) pa_nil))) (by intro _; rfl))) (pss_one (ps_ret pe_bl)) pss_nil)
      (pss_cons (ps_set (i := 13) sc_law.nd rfl (Or.inl rfl) (pe_call G__law_drop (hr.mono (by decide)) (by rfl) Y.g__law_drop Y.F__law_drop.kp Y.b__law_drop .nil pass0 (pa_cons (pv 1) (pa_cons (pv 4) pa_nil))))
      (pss_cons (ps_set (i := 14) sc_law.nd rfl (Or.inl rfl) (pe_call G__law_told (hr.mono (by decide)) (by rfl) Y.g__law_told Y.F__law_told.kp Y.b__law_told .nil pass0 (pa_cons (pe_slice sl_SEQ (pv 6) (po_some (pv 13)) po_none) (pa_cons (pv 3) (pa_cons (pv 5) pa_nil)))))
      (pss_one (ps_if (pt_not (pt_tru (pe_call G__law_alike (hr.mono (by decide)) (by rfl) Y.g__law_alike Y.F__law_alike.kp Y.b__law_alike .nil pass0 (pa_cons (pe_call G_told_log (hr.mono (by decide)) (by rfl) Y.g_told_log Y.F_told_log.kp Y.b_told_log .nil pass0 (pa_cons (pv 11) (pa_cons (pv 3) (pa_cons (pe_op op_ADD (pv 8) (pv 13)) (pa_cons (pe_op op_SUB (pv 4) (pv 13)) (pa_cons (pv 5) pa_nil)))))) (pa_cons (pv 14) pa_nil))) (by intro _; rfl))) (pss_one (ps_ret pe_bl)) pss_nil))))))))))))))))))
    (pss_one (ps_ret pe_bl))))
end
end My

set_option Elab.async false
set_option linter.all false
set_option maxRecDepth 100000
set_option maxHeartbeats 1000000
namespace My
open PySem PySem.Spec PyProof.Rows L2
local macro_rules | `(tactic| walk_at "side") => `(tactic| first | assumption | exact Nat.zero_le _ | decide | omega)
local macro_rules | `(tactic| walk_at "rd1") => `(tactic| first
  | with_reducible refine s_seq ?_
  | with_reducible refine x_gsub ?_
  | with_reducible refine s_asg ?_
  | ((with_reducible refine s_gn ?_); dsimp only [List.set])
  | ((with_reducible refine x_var (v := ?rdv) ?rdhv ?_); (case rdhv => rfl))
  | with_reducible refine x_c ?_
  | with_reducible refine x_op ?_
  | with_reducible refine x_cons ?_
  | with_reducible refine x_nil ?_
  | with_reducible refine x_cb ?_
  | with_reducible refine x_call ?_
  | with_reducible refine s_if ?_
  | with_reducible refine s_ret ?_
  | with_reducible refine s_retN ?_
  | with_reducible refine s_next ?_
  | with_reducible refine s_brk ?_
  | with_reducible refine s_cont ?_
  | with_reducible refine s_drop ?_
  | with_reducible refine s_par ?_
  | with_reducible refine s_par3 ?_
  | ((with_reducible refine s_p2 ?_); dsimp only [List.set])
  | ((with_reducible refine s_p3 ?_); dsimp only [List.set])
  | with_reducible refine f_r1 ?_
  | with_reducible refine f_r2 ?_
  | with_reducible refine f_l ?_
  | with_reducible refine f_t ?_
  | with_reducible refine f_s ?_
  | with_reducible refine c_r1 ?_
  | with_reducible refine c_r2 ?_
  | with_reducible refine c_l ?_
  | with_reducible refine c_t ?_
  | with_reducible refine c_s ?_
  | with_reducible refine x_tst ?_
  | with_reducible refine x_tru ?_
  | with_reducible refine x_truB ?_
  | with_reducible refine x_bl2 ?_
  | with_reducible refine x_int ?_
  | with_reducible refine x_str ?_
  | with_reducible refine x_not ?_
  | with_reducible refine x_and ?_
  | with_reducible refine x_or ?_
  | with_reducible refine x_andV ?_
  | with_reducible refine x_orV ?_
  | with_reducible refine x_notV ?_
  | with_reducible refine x_if ?_
  | with_reducible refine x_yes ?_
  | with_reducible refine x_un ?_
  | with_reducible refine x_tup ?_
  | with_reducible refine x_lst ?_
  | with_reducible refine x_callK ?_
  | with_reducible refine x_callK0 ?_
  | with_reducible refine x_bm ?_
  | with_reducible refine x_bm0 ?_
  | with_reducible refine x_tyS ?_
  | with_reducible refine x_sl ?_
  | with_reducible refine x_nopart ?_
  | with_reducible refine x_part ?_
  | with_reducible refine x_fmt0 ?_
  | with_reducible refine x_fmt ?_
  | with_reducible refine x_chain ?_
  | with_reducible refine a_ii ?_
  | with_reducible refine s_ii ?_
  | ((with_reducible refine md_ii ?rdc ?_); (case rdc => first | decide | assumption | omega))
  | with_reducible refine n_i ?_
  | with_reducible refine e_ii ?_
  | with_reducible refine e_bb ?_
  | with_reducible refine ne_ii ?_
  | with_reducible refine ne_bb ?_
  | with_reducible refine lt_ii ?_
  | with_reducible refine lt_ss ?_
  | with_reducible refine le_ii ?_
  | with_reducible refine gt_ii ?_
  | with_reducible refine gt_ss ?_
  | with_reducible refine ge_ii ?_
  | with_reducible refine e_ss ?_
  | with_reducible refine ne_ss ?_
  | with_reducible refine is_N ?_
  | with_reducible refine is_T ?_
  | with_reducible refine is_B ?_
  | with_reducible refine isn_N ?_
  | with_reducible refine isn_T ?_
  | with_reducible refine isn_B ?_
  | with_reducible refine in_s ?_
  | with_reducible refine nin_s ?_
  | with_reducible refine i_i ?_
  | with_reducible refine i_b ?_
  | with_reducible refine ab_i ?_
  | with_reducible refine mx_ii ?_
  | with_reducible refine mn_ii ?_
  | with_reducible refine ty_N ?_
  | with_reducible refine ty_B ?_
  | with_reducible refine ty_I ?_
  | with_reducible refine ty_S ?_
  | with_reducible refine ma_s ?_
  | with_reducible refine mp_s ?_
  | with_reducible refine mdg_s ?_
  | with_reducible refine mf_s ?_
  | with_reducible refine iteT ?_
  | with_reducible refine iteF ?_
  | with_reducible refine iteNt ?_
  | with_reducible refine iteNf ?_
  | with_reducible refine iteTd (by decide) ?_
  | with_reducible refine iteFd (by decide) ?_
  | with_reducible refine iteNd (by decide) ?_
  | with_reducible refine iteNdF (by decide) ?_
  | ((with_reducible refine iteFd ?rdn ?_); (case rdn => (intro rdz; cases rdz; done)))
  | ((with_reducible refine iteNdF ?rdn ?_); (case rdn => (intro rdz; cases rdz; done))))
local macro_rules | `(tactic| walk_at "rd") => `(tactic| (repeat walk_at "rd1"))
section
variable {P : Program} {w : World} {K : PySem.W.Frag} {mg : Str → Option Value} {base : Heap}
/-! is_text -/
def sp_is_text (K : PySem.W.Frag) : Sp := fun vs H Q _ => ∃ l : List Nat, vs = [.str (S l)] ∧ Q (.bl (isT l)) H
theorem ok_is_text (Y : Fx K mg) : FnOk P w K mg base CX0 1 Y.a_is_text Y.fd_is_text ["value"] (sp_is_text K) := by
  refine Y.F_is_text.ok sc_is_text (fun vs H Q E h => ?_) (fun cdv A outer s H vs Q E hr h => ?_)
  · obtain ⟨l, rfl, _⟩ := h
    rfl
  · obtain ⟨l, rfl, q⟩ := h
    refine ⟨_, b_is_text Y hr, ?_⟩
    show t_is_text K _ [some (.str (S l))] H
    unfold t_is_text
    walk_at "rd"
    rw [← is_text_eq l] at q
    refine ite2' (fun e => ?_) (fun e => ?_)
    · walk_at "rd"
      rw [e] at q
      exact q
    · rw [e] at q
      exact q
/-! number_at -/
def numAt (l : List Nat) (a k : Nat) : Option Nat := if ((l.take (a + k)).drop a).length = k ∧ k ≠ 0 ∧ isD ((l.take (a + k)).drop a) = true then some (NumText.digitsVal ((l.take (a + k)).drop a)) else none
inductive NumV : Option Nat → V → Prop where
  | some (n : Nat) : NumV (some n) (.int n)
  | none : NumV none .non
def sp_number_at (K : PySem.W.Frag) : Sp := fun vs H Q _ => ∃ (l : List Nat) (a k : Nat), vs = [.str (S l), .int a, .int k] ∧ isT l = true ∧ l.length ≤ 100000 ∧ k ≤ 100 ∧ ∀ v, NumV (numAt l a k) v → Q v H
theorem ok_number_at (Y : Fx K mg) : FnOk P w K mg base CX0 1 Y.a_number_at Y.fd_number_at ["text", "at", "size"] (sp_number_at K) := by
  refine Y.F_number_at.ok sc_number_at (fun vs H Q E h => ?_) (fun cdv A outer s H vs Q E hr h => ?_)
  · obtain ⟨l, a, k, rfl, _⟩ := h
    rfl
  · obtain ⟨l, a, k, rfl, hT, hl, hk, q⟩ := h
    refine ⟨_, b_number_at Y hr, ?_⟩
    show t_number_at K _ [some (.str (S l)), some (.int a), some (.int k), none] H
    unfold t_number_at
    walk_at "rd"
    refine sl_S (by rw [S_len]; exact Nat.le_trans hl (by decide)) ?_
    rw [show (a : Int) + (k : Int) = ((a + k : Nat) : Int) by simp, cut_mid]
    generalize hw : (l.take (a + k)).drop a = wd
    have hwl : wd.length ≤ k := by
      rw [← hw, List.length_drop, List.length_take]
      omega
    have hwT : isT wd = true := by
      rw [← hw]
      exact isT_drop _ (isT_take _ hT)
    walk_at "rd"
    refine ln_s (by rw [S_len]; exact Nat.le_trans (Nat.le_trans hwl hk) (by decide)) ?_
    rw [S_len]
    walk_at "rd"
    unfold numAt at q
    rw [hw] at q
    refine ite2' (fun e => ?_) (fun e => ?_)
    · have e1 : wd.length = k := by have := of_decide_eq_true e; omega
      walk_at "rd"
      rw [isdigit_eq hwT]
      refine ite2' (fun e => ?_) (fun e => ?_)
      · rw [Bool.and_eq_true] at e
        have e2 : wd ≠ [] := of_decide_eq_true e.1
        have e3 : k ≠ 0 := by
          intro z
          exact e2 (List.eq_nil_of_length_eq_zero (by omega))
        walk_at "rd"
        refine i_s (SX.int_S e.2 e2 (by omega)) (by rw [S_len]; omega) ?_
        rw [if_pos ⟨e1, e3, e.2⟩] at q
        exact q _ (.some _)
      · walk_at "rd"
        rw [if_neg] at q
        · exact q _ .none
        · intro z
          have e2 : wd ≠ [] := by
            intro y
            rw [y] at e1
            exact z.2.1 e1.symm
          rw [decide_eq_true e2, Bool.true_and, z.2.2] at e
          cases e
    · walk_at "rd"
      rw [if_neg] at q
      · exact q _ .none
      · intro z
        have := of_decide_eq_false e
        omega
def pieceL (age number writer : Nat) (more : Bool) (part : List Nat) : List Nat := pad 6 age ++ pad 6 number ++ pad 6 writer ++ [if more then 43 else 46] ++ part
theorem log_small {n : Nat} (h : n < 1000000) : ((n : Int).natAbs).log2 < 1920 := by
  rw [Int.natAbs_natCast]
  by_cases h0 : n = 0
  · subst h0; decide
  · exact Nat.lt_of_lt_of_le ((Nat.log2_lt h0).mpr (show n < 2 ^ 20 by omega)) (by decide)
theorem pad_len {n : Nat} (h : n < 1000000) : (pad 6 n).length = 6 := by
  unfold pad
  have h1 := (Nat.length_repr_le_iff (n := n) (k := 6) (by decide)).mpr h
  rw [← String.length_toList, Nat.toList_repr] at h1
  rw [List.length_append, List.length_replicate, List.length_map]
  omega
end
end My

set_option Elab.async false
set_option linter.all false
set_option maxRecDepth 100000
set_option maxHeartbeats 1000000
namespace My
open PySem PySem.Spec PyProof.Rows L2
local macro_rules | `(tactic| walk_at "len") => `(tactic| first | assumption | omega | decide | (simp only [List.length_append, List.length_take, List.length_drop, List.length_cons, List.length_nil, List.length_replicate]; omega))
local macro_rules | `(tactic| walk_at "side") => `(tactic| first | assumption | exact Nat.zero_le _ | decide | omega)
local macro_rules | `(tactic| walk_at "rd1") => `(tactic| first
  | with_reducible refine s_seq ?_
  | with_reducible refine x_gsub ?_
  | with_reducible refine s_asg ?_
  | ((with_reducible refine s_gn ?_); dsimp only [List.set])
  | ((with_reducible refine x_var (v := ?rdv) ?rdhv ?_); (case rdhv => rfl))
  | with_reducible refine x_c ?_
  | with_reducible refine x_op ?_
  | with_reducible refine x_cons ?_
  | with_reducible refine x_nil ?_
  | with_reducible refine x_cb ?_
  | with_reducible refine x_call ?_
  | with_reducible refine s_if ?_
  | with_reducible refine s_ret ?_
  | with_reducible refine s_retN ?_
  | with_reducible refine s_next ?_
  | with_reducible refine s_brk ?_
  | with_reducible refine s_cont ?_
  | with_reducible refine s_drop ?_
  | with_reducible refine s_par ?_
  | with_reducible refine s_par3 ?_
  | ((with_reducible refine s_p2 ?_); dsimp only [List.set])
  | ((with_reducible refine s_p3 ?_); dsimp only [List.set])
  | with_reducible refine f_r1 ?_
  | with_reducible refine f_r2 ?_
  | with_reducible refine f_l ?_
  | with_reducible refine f_t ?_
  | with_reducible refine f_s ?_
  | with_reducible refine c_r1 ?_
  | with_reducible refine c_r2 ?_
  | with_reducible refine c_l ?_
  | with_reducible refine c_t ?_
  | with_reducible refine c_s ?_
  | with_reducible refine x_tst ?_
  | with_reducible refine x_tru ?_
  | with_reducible refine x_truB ?_
  | with_reducible refine x_bl2 ?_
  | with_reducible refine x_int ?_
  | with_reducible refine x_str ?_
  | with_reducible refine x_not ?_
  | with_reducible refine x_and ?_
  | with_reducible refine x_or ?_
  | with_reducible refine x_andV ?_
  | with_reducible refine x_orV ?_
  | with_reducible refine x_notV ?_
  | with_reducible refine x_if ?_
  | with_reducible refine x_yes ?_
  | with_reducible refine x_un ?_
  | with_reducible refine x_tup ?_
  | with_reducible refine x_lst ?_
  | with_reducible refine x_callK ?_
  | with_reducible refine x_callK0 ?_
  | with_reducible refine x_bm ?_
  | with_reducible refine x_bm0 ?_
  | with_reducible refine x_tyS ?_
  | with_reducible refine x_sl ?_
  | with_reducible refine x_nopart ?_
  | with_reducible refine x_part ?_
  | with_reducible refine x_fmt0 ?_
  | with_reducible refine x_fmt ?_
  | with_reducible refine x_chain ?_
  | with_reducible refine a_ii ?_
  | ((with_reducible refine sl_to ?rda ?rdb ?_); (case rda => walk_at "len"); (case rdb => walk_at "len"))
  | ((with_reducible refine sl_from ?rda ?rdb ?_); (case rda => walk_at "len"); (case rdb => walk_at "len"))
  | ((with_reducible refine sl_mid ?rda ?rdb ?rdc ?_); (case rda => walk_at "len"); (case rdb => walk_at "len"); (case rdc => walk_at "len"))
  | ((with_reducible refine a_SS ?rda ?_); (case rda => walk_at "len"))
  | ((with_reducible refine ln_S ?rda ?_); (case rda => walk_at "len"))
  | with_reducible refine e_SS ?_
  | with_reducible refine ne_SS ?_
  | with_reducible refine s_ii ?_
  | ((with_reducible refine md_ii ?rdc ?_); (case rdc => first | decide | assumption | omega))
  | with_reducible refine n_i ?_
  | with_reducible refine e_ii ?_
  | with_reducible refine e_bb ?_
  | with_reducible refine ne_ii ?_
  | with_reducible refine ne_bb ?_
  | with_reducible refine lt_ii ?_
  | with_reducible refine lt_ss ?_
  | with_reducible refine le_ii ?_
  | with_reducible refine gt_ii ?_
  | with_reducible refine gt_ss ?_
  | with_reducible refine ge_ii ?_
  | with_reducible refine e_ss ?_
  | with_reducible refine ne_ss ?_
  | with_reducible refine is_N ?_
  | with_reducible refine is_T ?_
  | with_reducible refine is_B ?_
  | with_reducible refine isn_N ?_
  | with_reducible refine isn_T ?_
  | with_reducible refine isn_B ?_
  | with_reducible refine in_s ?_
  | with_reducible refine nin_s ?_
  | with_reducible refine i_i ?_
  | with_reducible refine i_b ?_
  | with_reducible refine ab_i ?_
  | with_reducible refine mx_ii ?_
  | with_reducible refine mn_ii ?_
  | with_reducible refine ty_N ?_
  | with_reducible refine ty_B ?_
  | with_reducible refine ty_I ?_
  | with_reducible refine ty_S ?_
  | with_reducible refine ma_s ?_
  | with_reducible refine mp_s ?_
  | with_reducible refine mdg_s ?_
  | with_reducible refine mf_s ?_
  | with_reducible refine iteT ?_
  | with_reducible refine iteF ?_
  | with_reducible refine iteNt ?_
  | with_reducible refine iteNf ?_
  | with_reducible refine iteTd (by decide) ?_
  | with_reducible refine iteFd (by decide) ?_
  | with_reducible refine iteNd (by decide) ?_
  | with_reducible refine iteNdF (by decide) ?_
  | ((with_reducible refine iteFd ?rdn ?_); (case rdn => (intro rdz; cases rdz; done)))
  | ((with_reducible refine iteNdF ?rdn ?_); (case rdn => (intro rdz; cases rdz; done))))
local macro_rules | `(tactic| walk_at "rd") => `(tactic| (repeat walk_at "rd1"))
/-! ### what a log tells: the two ways -/
abbrev Pc := Nat × Nat × Bool × List Nat
def rdP (l : List Nat) : Option (Nat × Pc) :=
  if 19 ≤ l.length ∧ (l[18]? = some 43 ∨ l[18]? = some 46) then
    match numAt l 0 6, numAt l 6 6, numAt l 12 6 with
    | some a, some n, some w => some (a, n, w, decide (l[18]? = some 43), l.drop 19)
    | _, _, _ => none
  else none
def ofAge (age : Nat) (l : List Nat) : Option Pc := match rdP l with
  | some (a, p) => if a = age then some p else none
  | none => none
def pcD (age : Nat) : Option Pc → PyData
  | some (n, w, m, p) => .tuple [.int age, .int n, .int w, .bool m, .str (S p)]
  | none => .none
def recd (sg least : Nat) : List (Option Pc) → Nat → List (List Nat) → Option Nat → Option (List Nat × Nat × Nat)
  | [], _, _, _ => none
  | none :: _, _, _, _ => none
  | some (n, w, m, p) :: ps, at', acc, wo =>
    if n ≠ at' ∨ w ≠ wo.getD w ∨ wo.getD w < least then none
    else if m = false then some ((acc ++ [p]).flatten, at' + 1, wo.getD w)
    else if p.length ≠ sg - 19 then none
    else recd sg least ps (at' + 1) (acc ++ [p]) (some (wo.getD w))
def flat (sg : Nat) : List (Option Pc) → Nat → List (List Nat) → Nat → Nat → Nat → List (List Nat) → List (List Nat) × Nat
  | [], _, _, bg, _, _, rs => (rs, bg)
  | none :: _, _, _, bg, _, _, rs => (rs, bg)
  | some (n, w, m, p) :: ps, at', acc, bg, ls, ho, rs =>
    if n ≠ at' then (rs, bg)
    else if w ≠ (if acc = [] then w else ho) ∨ (if acc = [] then w else ho) < ls ∨ (m = true ∧ p.length ≠ sg - 19) then (rs, bg)
    else if m = true then flat sg ps (at' + 1) (acc ++ [p]) bg ls (if acc = [] then w else ho) rs
    else flat sg ps (at' + 1) [] (at' + 1) (if acc = [] then w else ho) (if acc = [] then w else ho) (rs ++ [(acc ++ [p]).flatten])
theorem flat_rec (sg : Nat) (bg ls : Nat) (rs : List (List Nat)) : ∀ (ps : List (Option Pc)) (a : Nat) (acc : List (List Nat)) (wo : Option Nat) (ho : Nat), (acc = [] → wo = none) → (acc ≠ [] → wo = some ho) →
    flat sg ps a acc bg ls ho rs = (match recd sg ls ps a acc wo with
      | none => (rs, bg)
      | some (t, nx, w) => flat sg (ps.drop (nx - a)) nx [] nx w w (rs ++ [t]))
  | [], a, acc, wo, ho, h1, h2 => rfl
  | none :: ps, a, acc, wo, ho, h1, h2 => rfl
  | some (n, w, m, p) :: ps, a, acc, wo, ho, h1, h2 => by
    have e : (if acc = [] then w else ho) = wo.getD w := by
      by_cases h : acc = []
      · rw [if_pos h, h1 h]; rfl
      · rw [if_neg h, h2 h]; rfl
    rw [flat, recd, e]
    by_cases hn : n = a
    · rw [if_neg (fun z => z hn)]
      by_cases hw : w ≠ wo.getD w ∨ wo.getD w < ls
      · rw [if_pos (hw.elim .inl fun h => .inr (.inl h)), if_pos (.inr hw)]
      · rw [if_neg (show ¬ (n ≠ a ∨ w ≠ wo.getD w ∨ wo.getD w < ls) from fun z => z.elim (fun z => z hn) hw)]
        cases m with
        | false =>
          rw [if_neg (fun z => z.elim (fun z => hw (.inl z)) fun z => z.elim (fun z => hw (.inr z)) fun z => Bool.noConfusion z.1), if_neg Bool.false_ne_true, if_pos rfl]
          show _ = flat sg ((some (n, w, false, p) :: ps).drop (a + 1 - a)) (a + 1) [] (a + 1) _ _ _
          rw [show a + 1 - a = 1 by omega]
          rfl
        | true =>
          by_cases hp : p.length = sg - 19
          · rw [if_neg (fun z => z.elim (fun z => hw (.inl z)) fun z => z.elim (fun z => hw (.inr z)) fun z => z.2 hp), if_pos rfl, if_neg (show ¬ true = false by decide), if_neg (fun z => z hp)]
            rw [flat_rec sg bg ls rs ps (a + 1) (acc ++ [p]) (some (wo.getD w)) (wo.getD w) (fun z => by simp at z) (fun _ => rfl)]
            cases hr : recd sg ls ps (a + 1) (acc ++ [p]) (some (wo.getD w)) with
            | none => rfl
            | some x =>
              obtain ⟨t, nx, w'⟩ := x
              have hlt := recd_lt sg ls ps (a + 1) _ _ hr
              show flat sg (ps.drop (nx - (a + 1))) _ _ _ _ _ _ = flat sg ((some (n, w, true, p) :: ps).drop (nx - a)) _ _ _ _ _ _
              rw [show nx - a = nx - (a + 1) + 1 by omega]
              rfl
          · rw [if_pos (.inr (.inr ⟨rfl, hp⟩)), if_neg (show ¬ true = false by decide), if_pos hp]
    · rw [if_pos hn, if_pos (.inl hn)]
where
  recd_lt (sg ls : Nat) : ∀ (ps : List (Option Pc)) (a : Nat) (acc : List (List Nat)) (wo : Option Nat) {t : List Nat} {nx w : Nat}, recd sg ls ps a acc wo = some (t, nx, w) → a < nx ∧ nx ≤ a + ps.length
    | [], a, acc, wo, t, nx, w', h => by cases h
    | none :: ps, a, acc, wo, t, nx, w', h => by cases h
    | some (n, w, m, p) :: ps, a, acc, wo, t, nx, w', h => by
      rw [recd] at h
      split at h
      · cases h
      · split at h
        · cases h
          rw [List.length_cons]
          omega
        · split at h
          · cases h
          · have := recd_lt sg ls ps _ _ _ h
            rw [List.length_cons]
            omega
/-! the newest writer -/
def IsTop (ws : List Int) (m : Int) : Prop := (m = -1 ∨ m ∈ ws) ∧ -1 ≤ m ∧ ∀ y ∈ ws, y ≤ m
theorem IsTop.uniq {ws : List Int} {m k : Int} (h : IsTop ws m) (g : IsTop ws k) : m = k := by
  have a : m ≤ k := h.1.elim (fun e => by rw [e]; exact g.2.1) fun e => g.2.2 m e
  have b : k ≤ m := g.1.elim (fun e => by rw [e]; exact h.2.1) fun e => h.2.2 k e
  omega
def topI : List Int → Int
  | [] => -1
  | x :: xs => if x < topI xs then topI xs else x
theorem topI_is : ∀ ws : List Int, (∀ y ∈ ws, 0 ≤ y) → IsTop ws (topI ws)
  | [], _ => ⟨.inl rfl, Int.le_refl _, fun _ h => by cases h⟩
  | x :: xs, h => by
    obtain ⟨a, b, c⟩ := topI_is xs fun y hy => h y (List.mem_cons_of_mem _ hy)
    have hx := h x (List.mem_cons_self ..)
    unfold topI
    split
    · refine ⟨a.elim .inl fun a => .inr (List.mem_cons_of_mem _ a), b, fun y hy => ?_⟩
      rcases List.mem_cons.mp hy with rfl | hy
      · omega
      · exact c y hy
    · refine ⟨.inr (List.mem_cons_self ..), by omega, fun y hy => ?_⟩
      rcases List.mem_cons.mp hy with rfl | hy
      · exact Int.le_refl _
      · have := c y hy; omega
def wsOf (ps : List (Option Pc)) : List Int := ps.filterMap fun o => o.map fun p => (p.2.1 : Int)
theorem wsOf_nn (ps : List (Option Pc)) : ∀ y ∈ wsOf ps, 0 ≤ y := fun y hy => by
  unfold wsOf at hy
  rw [List.mem_filterMap] at hy
  obtain ⟨o, _, h⟩ := hy
  cases o with
  | none => cases h
  | some p =>
    cases h
    exact Int.natCast_nonneg _
def toldD (sg : Nat) (ps : List (Option Pc)) : PyData := .tuple [.tuple ((flat sg ps 0 [] 0 0 0 []).1.map fun l => .str (S l)), .int (flat sg ps 0 [] 0 0 0 []).2, .int (topI (wsOf ps) + 1)]
theorem top_of_max {ps : List (Option Pc)} {m : Int} (h : m ∈ wsOf ps) (h2 : ∀ y ∈ wsOf ps, y ≤ m) : m = topI (wsOf ps) := IsTop.uniq (ws := wsOf ps) ⟨.inr h, by have := wsOf_nn ps m h; omega, h2⟩ (topI_is _ (wsOf_nn ps))
theorem top_of_nil {ps : List (Option Pc)} (h : wsOf ps = []) : topI (wsOf ps) = -1 := by rw [h]; rfl
theorem top_of_cons {ps : List (Option Pc)} {m : Int} (h : m ∈ (-1) :: wsOf ps) (h2 : ∀ y ∈ (-1) :: wsOf ps, y ≤ m) : m = topI (wsOf ps) :=
  IsTop.uniq (ws := wsOf ps) ⟨List.mem_cons.mp h, h2 _ (List.mem_cons_self ..), fun y hy => h2 y (List.mem_cons_of_mem _ hy)⟩ (topI_is _ (wsOf_nn ps))
/-! reading by figures -/
theorem numAt_yes {l : List Nat} {a k : Nat} (hk : k ≠ 0) (hl : a + k ≤ l.length) (hD : isD ((l.take (a + k)).drop a) = true) : numAt l a k = some (NumText.digitsVal ((l.take (a + k)).drop a)) := by
  unfold numAt
  rw [if_pos ⟨by rw [List.length_drop, List.length_take]; omega, hk, hD⟩]
theorem numAt_no {l : List Nat} {a k i c : Nat} (hi : a ≤ i) (hi2 : i < a + k) (hc : l[i]? = some c) (hD : ¬ (48 ≤ c ∧ c ≤ 57)) : numAt l a k = none := by
  unfold numAt
  rw [if_neg]
  rintro ⟨_, _, h⟩
  apply hD
  have hm : c ∈ (l.take (a + k)).drop a := by
    have e : ((l.take (a + k)).drop a)[i - a]? = some c := by
      rw [List.getElem?_drop, show a + (i - a) = i by omega, List.getElem?_take, if_pos hi2]
      exact hc
    exact List.mem_of_getElem? e
  have z := List.all_eq_true.mp h c hm
  rw [Bool.and_eq_true, decide_eq_true_eq, decide_eq_true_eq] at z
  exact z
theorem rdP_no {l : List Nat} {i c : Nat} (hi : i < 18) (hc : l[i]? = some c) (hD : ¬ (48 ≤ c ∧ c ≤ 57)) : rdP l = none := by
  unfold rdP
  split
  · by_cases h1 : i < 6
    · rw [numAt_no (Nat.zero_le _) h1 hc hD]
    · by_cases h2 : i < 12
      · rw [numAt_no (show 6 ≤ i by omega) (show i < 6 + 6 by omega) hc hD]
        cases numAt l 0 6 <;> rfl
      · rw [numAt_no (show 12 ≤ i by omega) (show i < 12 + 6 by omega) hc hD]
        cases numAt l 0 6 <;> cases numAt l 6 6 <;> rfl
  · rfl
theorem isD_cut {l : List Nat} {n a b : Nat} (h : isD (l.take n) = true) (hb : b ≤ n) : isD ((l.take b).drop a) = true := List.all_eq_true.mpr fun c hc => by
  have h1 := List.mem_of_mem_drop hc
  have h2 : c ∈ l.take n := by
    have : l.take b = (l.take n).take b := by rw [List.take_take, Nat.min_eq_left hb]
    rw [this] at h1
    exact List.mem_of_mem_take h1
  exact List.all_eq_true.mp h c h2
theorem isD_not {l : List Nat} {n : Nat} (h : isD (l.take n) = false) : ∃ i c, i < n ∧ l[i]? = some c ∧ ¬ (48 ≤ c ∧ c ≤ 57) := by
  have h2 : ∃ c ∈ l.take n, ¬ (48 ≤ c ∧ c ≤ 57) := by
    unfold isD at h
    rw [List.all_eq_false] at h
    obtain ⟨c, hc, h⟩ := h
    exact ⟨c, hc, fun z => h (by rw [Bool.and_eq_true, decide_eq_true_eq, decide_eq_true_eq]; exact z)⟩
  obtain ⟨c, hc, h⟩ := h2
  obtain ⟨i, hi⟩ := List.mem_iff_getElem?.mp hc
  rw [List.getElem?_take] at hi
  split at hi
  · exact ⟨i, c, by assumption, hi, h⟩
  · cases hi
theorem rdP_yes {l : List Nat} (h19 : 19 ≤ l.length) (hs : l[18]? = some 43 ∨ l[18]? = some 46) (hD : isD (l.take 18) = true) :
    rdP l = some (NumText.digitsVal (l.take 6), NumText.digitsVal ((l.take 12).drop 6), NumText.digitsVal ((l.take 18).drop 12), decide (l[18]? = some 43), l.drop 19) := by
  unfold rdP
  rw [if_pos ⟨h19, hs⟩, numAt_yes (a := 0) (k := 6) (by decide) (by omega) (isD_cut hD (by decide)), numAt_yes (a := 6) (k := 6) (by decide) (by omega) (isD_cut hD (by decide)), numAt_yes (a := 12) (k := 6) (by decide) (by omega) (isD_cut hD (by decide))]
  rfl
end My

set_option Elab.async false
set_option linter.all false
set_option maxRecDepth 100000
set_option maxHeartbeats 1000000
namespace My
open PySem PySem.Spec PyProof.Rows L2
local macro_rules | `(tactic| walk_at "side") => `(tactic| first | assumption | exact Nat.zero_le _ | decide | omega)
local macro_rules | `(tactic| walk_at "rd1") => `(tactic| first
  | with_reducible refine s_seq ?_
  | with_reducible refine x_gsub ?_
  | with_reducible refine s_asg ?_
  | ((with_reducible refine s_gn ?_); dsimp only [List.set])
  | ((with_reducible refine x_var (v := ?rdv) ?rdhv ?_); (case rdhv => rfl))
  | with_reducible refine x_c ?_
  | with_reducible refine x_op ?_
  | with_reducible refine x_cons ?_
  | with_reducible refine x_nil ?_
  | with_reducible refine x_cb ?_
  | with_reducible refine x_call ?_
  | with_reducible refine s_if ?_
  | with_reducible refine s_ret ?_
  | with_reducible refine s_retN ?_
  | with_reducible refine s_next ?_
  | with_reducible refine s_brk ?_
  | with_reducible refine s_cont ?_
  | with_reducible refine s_drop ?_
  | with_reducible refine s_par ?_
  | with_reducible refine s_par3 ?_
  | ((with_reducible refine s_p2 ?_); dsimp only [List.set])
  | ((with_reducible refine s_p3 ?_); dsimp only [List.set])
  | with_reducible refine f_r1 ?_
  | with_reducible refine f_r2 ?_
  | with_reducible refine f_l ?_
  | with_reducible refine f_t ?_
  | with_reducible refine f_s ?_
  | with_reducible refine c_r1 ?_
  | with_reducible refine c_r2 ?_
  | with_reducible refine c_l ?_
  | with_reducible refine c_t ?_
  | with_reducible refine c_s ?_
  | with_reducible refine x_tst ?_
  | with_reducible refine x_tru ?_
  | with_reducible refine x_truB ?_
  | with_reducible refine x_bl2 ?_
  | with_reducible refine x_int ?_
  | with_reducible refine x_str ?_
  | with_reducible refine x_not ?_
  | with_reducible refine x_and ?_
  | with_reducible refine x_or ?_
  | with_reducible refine x_andV ?_
  | with_reducible refine x_orV ?_
  | with_reducible refine x_notV ?_
  | with_reducible refine x_if ?_
  | with_reducible refine x_yes ?_
  | with_reducible refine x_un ?_
  | with_reducible refine x_tup ?_
  | with_reducible refine x_lst ?_
  | with_reducible refine x_callK ?_
  | with_reducible refine x_callK0 ?_
  | with_reducible refine x_bm ?_
  | with_reducible refine x_bm0 ?_
  | with_reducible refine x_tyS ?_
  | with_reducible refine x_sl ?_
  | with_reducible refine x_nopart ?_
  | with_reducible refine x_part ?_
  | with_reducible refine x_fmt0 ?_
  | with_reducible refine x_fmt ?_
  | with_reducible refine x_chain ?_
  | with_reducible refine a_ii ?_
  | with_reducible refine s_ii ?_
  | ((with_reducible refine md_ii ?rdc ?_); (case rdc => first | decide | assumption | omega))
  | with_reducible refine n_i ?_
  | with_reducible refine e_ii ?_
  | with_reducible refine e_bb ?_
  | with_reducible refine ne_ii ?_
  | with_reducible refine ne_bb ?_
  | with_reducible refine lt_ii ?_
  | with_reducible refine lt_ss ?_
  | with_reducible refine le_ii ?_
  | with_reducible refine gt_ii ?_
  | with_reducible refine gt_ss ?_
  | with_reducible refine ge_ii ?_
  | with_reducible refine e_ss ?_
  | with_reducible refine ne_ss ?_
  | with_reducible refine is_N ?_
  | with_reducible refine is_T ?_
  | with_reducible refine is_B ?_
  | with_reducible refine isn_N ?_
  | with_reducible refine isn_T ?_
  | with_reducible refine isn_B ?_
  | with_reducible refine in_s ?_
  | with_reducible refine nin_s ?_
  | with_reducible refine i_i ?_
  | with_reducible refine i_b ?_
  | with_reducible refine ab_i ?_
  | with_reducible refine mx_ii ?_
  | with_reducible refine mn_ii ?_
  | with_reducible refine ty_N ?_
  | with_reducible refine ty_B ?_
  | with_reducible refine ty_I ?_
  | with_reducible refine ty_S ?_
  | with_reducible refine ma_s ?_
  | with_reducible refine mp_s ?_
  | with_reducible refine mdg_s ?_
  | with_reducible refine mf_s ?_
  | with_reducible refine iteT ?_
  | with_reducible refine iteF ?_
  | with_reducible refine iteNt ?_
  | with_reducible refine iteNf ?_
  | with_reducible refine iteTd (by decide) ?_
  | with_reducible refine iteFd (by decide) ?_
  | with_reducible refine iteNd (by decide) ?_
  | with_reducible refine iteNdF (by decide) ?_
  | ((with_reducible refine iteFd ?rdn ?_); (case rdn => (intro rdz; cases rdz; done)))
  | ((with_reducible refine iteNdF ?rdn ?_); (case rdn => (intro rdz; cases rdz; done))))
local macro_rules | `(tactic| walk_at "rd") => `(tactic| (repeat walk_at "rd1"))
section
variable {P : Program} {w : World} {K : PySem.W.Frag} {mg : Str → Option Value} {base : Heap}
/-! piece_told -/
def RdV (H : Hp) (v : V) : Option (Nat × Pc) → Prop
  | none => v = .non
  | some (a, n, w, m, p) => ∃ t, v = .ref t ∧ H t = some (.tup [.int a, .int n, .int w, .bl m, .str (S p)])
def sp_piece_told (K : PySem.W.Frag) : Sp := fun vs H Q _ => ∃ l : List Nat, vs = [.str (S l)] ∧ isT l = true ∧ l.length ≤ 100000 ∧ ∀ v H', Same H H' → RdV H' v (rdP l) → Q v H'
theorem ok_piece_told (Y : Fx K mg) : FnOk P w K mg base CX0 2 Y.a_piece_told Y.fd_piece_told ["block"] (sp_piece_told K) := by
  refine Y.F_piece_told.ok sc_piece_told (fun vs H Q E h => ?_) (fun cdv A outer s H vs Q E hr h => ?_)
  · obtain ⟨l, rfl, _⟩ := h
    rfl
  · obtain ⟨l, rfl, hT, hl, q⟩ := h
    refine ⟨_, b_piece_told Y (ok_is_text Y) (ok_number_at Y) hr, ?_⟩
    show t_piece_told K _ _ _ [some (.str (S l)), none, none, none] H
    unfold t_piece_told
    have hz : l.length ≤ sizeLine := Nat.le_trans hl (by decide)
    walk_at "rd"
    refine ⟨l, rfl, ?_⟩
    rw [hT]
    walk_at "rd"
    refine ln_s (by rw [S_len]; exact hz) ?_
    rw [S_len]
    walk_at "rd"
    refine ite2' (fun e => ?_) (fun e => ?_)
    · walk_at "rd"
      have h19 : ¬ 19 ≤ l.length := by have := of_decide_eq_true e; omega
      have e0 : rdP l = none := if_neg (fun z => h19 z.1)
      rw [e0] at q
      exact q _ H (Same.refl H) rfl
    · have h19 : 19 ≤ l.length := by have := of_decide_eq_false e; omega
      have hc : l[18]? = some l[18] := List.getElem?_eq_getElem (by omega)
      walk_at "rd"
      refine ix_S (by rw [S_len]; exact hz) (at_nat (by decide) hc) ?_
      walk_at "rd"
      rw [show ("+." : Str) = S [43, 46] from rfl, S_cps]
      refine ite2' (fun e => ?_) (fun e => ?_)
      · walk_at "rd"
        have hn : l[18] ∉ [43, 46] := by
          rw [Bool.not_eq_true'] at e
          exact of_decide_eq_false e
        have e0 : rdP l = none := if_neg (fun z => hn (by
          rw [hc] at z
          rcases z.2 with z | z
          · rw [Option.some.inj z]; decide
          · rw [Option.some.inj z]; decide))
        rw [e0] at q
        exact q _ H (Same.refl H) rfl
      · have hs : l[18]? = some 43 ∨ l[18]? = some 46 := by
          rw [Bool.not_eq_false'] at e
          have := of_decide_eq_true e
          rw [hc]
          simp only [List.mem_cons, List.not_mem_nil, or_false] at this
          rcases this with z | z
          · exact .inl (congrArg some z)
          · exact .inr (congrArg some z)
        walk_at "rd"
        refine ⟨l, 0, 6, rfl, hT, hl, by decide, fun v1 h1 => ?_⟩
        walk_at "rd"
        refine ⟨l, 6, 6, rfl, hT, hl, by decide, fun v2 h2 => ?_⟩
        walk_at "rd"
        refine ⟨l, 12, 6, rfl, hT, hl, by decide, fun v3 h3 => ?_⟩
        walk_at "rd"
        unfold rdP at q
        rw [if_pos ⟨h19, hs⟩] at q
        generalize numAt l 0 6 = o1 at h1 q
        generalize numAt l 6 6 = o2 at h2 q
        generalize numAt l 12 6 = o3 at h3 q
        cases h1 with
        | none =>
          walk_at "rd"
          exact q _ H (Same.refl H) rfl
        | some a =>
          cases h2 with
          | none =>
            walk_at "rd"
            exact q _ H (Same.refl H) rfl
          | some n =>
            cases h3 with
            | none =>
              walk_at "rd"
              exact q _ H (Same.refl H) rfl
            | some w =>
              walk_at "rd"
              refine ix_S (by rw [S_len]; exact hz) (at_nat (by decide) hc) ?_
              walk_at "rd"
              refine sl_S (by rw [S_len]; exact hz) ?_
              rw [cut_fromI l (show (0 : Int) ≤ 19 by decide), S_one, show ("+" : Str) = S [43] from rfl, S_eq]
              walk_at "rd"
              refine ⟨by show 5 ≤ sizeLine; decide, fun p hp => ?_⟩
              refine q _ _ (same_upd hp) ⟨p, rfl, ?_⟩
              rw [upd_same, show decide (l[18]? = some 43) = decide ([l[18]] = [43]) by rw [hc]; simp]
              rfl
end
end My

set_option Elab.async false
set_option linter.all false
set_option maxRecDepth 100000
set_option maxHeartbeats 1000000
namespace My
open PySem PySem.Spec PyProof.Rows L2
local macro_rules | `(tactic| walk_at "side") => `(tactic| first | assumption | exact Nat.zero_le _ | decide | omega)
local macro_rules | `(tactic| walk_at "rd1") => `(tactic| first
  | with_reducible refine s_seq ?_
  | with_reducible refine x_gsub ?_
  | with_reducible refine s_asg ?_
  | ((with_reducible refine s_gn ?_); dsimp only [List.set])
  | ((with_reducible refine x_var (v := ?rdv) ?rdhv ?_); (case rdhv => rfl))
  | with_reducible refine x_c ?_
  | with_reducible refine x_op ?_
  | with_reducible refine x_cons ?_
  | with_reducible refine x_nil ?_
  | with_reducible refine x_cb ?_
  | with_reducible refine x_call ?_
  | with_reducible refine s_if ?_
  | with_reducible refine s_ret ?_
  | with_reducible refine s_retN ?_
  | with_reducible refine s_next ?_
  | with_reducible refine s_brk ?_
  | with_reducible refine s_cont ?_
  | with_reducible refine s_drop ?_
  | with_reducible refine s_par ?_
  | with_reducible refine s_par3 ?_
  | ((with_reducible refine s_p2 ?_); dsimp only [List.set])
  | ((with_reducible refine s_p3 ?_); dsimp only [List.set])
  | with_reducible refine f_r1 ?_
  | with_reducible refine f_r2 ?_
  | with_reducible refine f_l ?_
  | with_reducible refine f_t ?_
  | with_reducible refine f_s ?_
  | with_reducible refine c_r1 ?_
  | with_reducible refine c_r2 ?_
  | with_reducible refine c_l ?_
  | with_reducible refine c_t ?_
  | with_reducible refine c_s ?_
  | with_reducible refine x_tst ?_
  | with_reducible refine x_tru ?_
  | with_reducible refine x_truB ?_
  | with_reducible refine x_bl2 ?_
  | with_reducible refine x_int ?_
  | with_reducible refine x_str ?_
  | with_reducible refine x_not ?_
  | with_reducible refine x_and ?_
  | with_reducible refine x_or ?_
  | with_reducible refine x_andV ?_
  | with_reducible refine x_orV ?_
  | with_reducible refine x_notV ?_
  | with_reducible refine x_if ?_
  | with_reducible refine x_yes ?_
  | with_reducible refine x_un ?_
  | with_reducible refine x_tup ?_
  | with_reducible refine x_lst ?_
  | with_reducible refine x_callK ?_
  | with_reducible refine x_callK0 ?_
  | with_reducible refine x_bm ?_
  | with_reducible refine x_bm0 ?_
  | with_reducible refine x_tyS ?_
  | with_reducible refine x_sl ?_
  | with_reducible refine x_nopart ?_
  | with_reducible refine x_part ?_
  | with_reducible refine x_fmt0 ?_
  | with_reducible refine x_fmt ?_
  | with_reducible refine x_chain ?_
  | with_reducible refine a_ii ?_
  | with_reducible refine s_ii ?_
  | ((with_reducible refine md_ii ?rdc ?_); (case rdc => first | decide | assumption | omega))
  | with_reducible refine n_i ?_
  | with_reducible refine e_ii ?_
  | with_reducible refine e_bb ?_
  | with_reducible refine ne_ii ?_
  | with_reducible refine ne_bb ?_
  | with_reducible refine lt_ii ?_
  | with_reducible refine lt_ss ?_
  | with_reducible refine le_ii ?_
  | with_reducible refine gt_ii ?_
  | with_reducible refine gt_ss ?_
  | with_reducible refine ge_ii ?_
  | with_reducible refine e_ss ?_
  | with_reducible refine ne_ss ?_
  | with_reducible refine is_N ?_
  | with_reducible refine is_T ?_
  | with_reducible refine is_B ?_
  | with_reducible refine isn_N ?_
  | with_reducible refine isn_T ?_
  | with_reducible refine isn_B ?_
  | with_reducible refine in_s ?_
  | with_reducible refine nin_s ?_
  | with_reducible refine i_i ?_
  | with_reducible refine i_b ?_
  | with_reducible refine ab_i ?_
  | with_reducible refine mx_ii ?_
  | with_reducible refine mn_ii ?_
  | with_reducible refine ty_N ?_
  | with_reducible refine ty_B ?_
  | with_reducible refine ty_I ?_
  | with_reducible refine ty_S ?_
  | with_reducible refine ma_s ?_
  | with_reducible refine mp_s ?_
  | with_reducible refine mdg_s ?_
  | with_reducible refine mf_s ?_
  | with_reducible refine iteT ?_
  | with_reducible refine iteF ?_
  | with_reducible refine iteNt ?_
  | with_reducible refine iteNf ?_
  | with_reducible refine iteTd (by decide) ?_
  | with_reducible refine iteFd (by decide) ?_
  | with_reducible refine iteNd (by decide) ?_
  | with_reducible refine iteNdF (by decide) ?_
  | ((with_reducible refine iteFd ?rdn ?_); (case rdn => (intro rdz; cases rdz; done)))
  | ((with_reducible refine iteNdF ?rdn ?_); (case rdn => (intro rdz; cases rdz; done))))
local macro_rules | `(tactic| walk_at "rd") => `(tactic| (repeat walk_at "rd1"))
section
variable {P : Program} {w : World} {K : PySem.W.Frag} {mg : Str → Option Value} {base : Heap}
/-! the law's spring -/
def SprAt (H : Hp) (s g : Addr) : Prop := ∃ (gr : List Int) (m c : Int), H s = some (.lst [.ref g, .int m, .int c]) ∧ H g = some (.lst (gr.map V.int)) ∧ 0 ≤ m ∧ m < 2 ^ 62 ∧ gr.length ≤ 1000
def Frm (s g : Addr) (H H' : Hp) : Prop := ∀ a o, a ≠ s → a ≠ g → H a = some o → H' a = some o
theorem Frm.refl {s g : Addr} (H : Hp) : Frm s g H H := fun _ _ _ _ h => h
theorem Frm.trans {s g : Addr} {H1 H2 H3 : Hp} (a : Frm s g H1 H2) (b : Frm s g H2 H3) : Frm s g H1 H3 := fun x o h1 h2 h => b x o h1 h2 (a x o h1 h2 h)
theorem Frm.new {s g p : Addr} {H H' : Hp} {o : HO} (a : Frm s g H H') (h : H' p = none) : Frm s g H (upd H' p o) := fun x u h1 h2 e => by
  have e' := a x u h1 h2 e
  rw [upd_ne (ne_of_none e' h)]
  exact e'
theorem Frm.updS {s g : Addr} {H H' : Hp} {o : HO} (a : Frm s g H H') : Frm s g H (upd H' s o) := fun x u h1 h2 e => by
  rw [upd_ne h1]
  exact a x u h1 h2 e
theorem Frm.updG {s g : Addr} {H H' : Hp} {o : HO} (a : Frm s g H H') : Frm s g H (upd H' g o) := fun x u h1 h2 e => by
  rw [upd_ne h2]
  exact a x u h1 h2 e
theorem Frm.same {s g : Addr} {R H H' : Hp} (a : Frm s g H H') (e : Same R H) (hs : R s = none) (hg : R g = none) : Same R H' := fun x o h => a x o (fun z => by rw [z, hs] at h; cases h) (fun z => by rw [z, hg] at h; cases h) (e x o h)
theorem ints_ne {g : Addr} {m c : Int} {gr : List Int} : (HO.lst [.ref g, .int m, .int c]) ≠ .lst (gr.map V.int) := by
  intro e
  injection e with e
  cases gr with
  | nil => cases e
  | cons x xs =>
    injection e with e1 e2
    cases e1
theorem SprAt.ne {H : Hp} {s g : Addr} (h : SprAt H s g) : s ≠ g := by
  obtain ⟨gr, m, c, h1, h2, _⟩ := h
  exact ne_of h1 h2 ints_ne
theorem SprAt.new {H : Hp} {s g p : Addr} {o : HO} (h : SprAt H s g) (hp : H p = none) : SprAt (upd H p o) s g := by
  obtain ⟨gr, m, c, h1, h2, h3⟩ := h
  exact ⟨gr, m, c, by rw [upd_ne (ne_of_none h1 hp)]; exact h1, by rw [upd_ne (ne_of_none h2 hp)]; exact h2, h3⟩
/-- a new object's later change -/
theorem SprAt.keep {H : Hp} {s g p : Addr} {o : HO} (h : SprAt H s g) (h1 : p ≠ s) (h2 : p ≠ g) : SprAt (upd H p o) s g := by
  obtain ⟨gr, m, c, e1, e2, h3⟩ := h
  exact ⟨gr, m, c, by rw [upd_ne (Ne.symm h1)]; exact e1, by rw [upd_ne (Ne.symm h2)]; exact e2, h3⟩
theorem SprAt.off {H : Hp} {s g p : Addr} (h : SprAt H s g) (hp : H p = none) : p ≠ s ∧ p ≠ g := by
  obtain ⟨gr, m, c, h1, h2, _⟩ := h
  exact ⟨ne_new h1 hp, ne_new h2 hp⟩
theorem dp_ints {p : Addr} {H : Hp} (ns : List Int) (h : SqL K H p (ns.map V.int)) : Dp K H (.ref p) (.list (ns.map PyData.int)) := by
  refine .lst h ?_
  clear h
  induction ns with
  | nil => exact .nil
  | cons b bs ih => exact .cons (.int b) ih
theorem shaped_ints (ns : List Int) : SeqAt.shaped (.list (ns.map PyData.int)) = true := by
  have h1 : PyData.canLayAll0 (ns.map PyData.int) = true := by
    induction ns with
    | nil => rfl
    | cons b bs ih => simp [PyData.canLayAll0, PyData.canLay0, ih]
  have h2 : PyData.depthAll (ns.map PyData.int) ≤ 1 := by
    clear h1
    induction ns with
    | nil => simp [PyData.depthAll]
    | cons b bs ih =>
      simp only [List.map_cons, PyData.depthAll, PyData.depth] at *
      omega
  unfold SeqAt.shaped
  rw [Bool.and_eq_true]
  refine ⟨h1, decide_eq_true ?_⟩
  simp only [PyData.depth]
  omega
def sp__law_drop (K : PySem.W.Frag) : Sp := fun vs H Q _ => ∃ (s g : Addr) (n : Int), vs = [.ref s, .int n] ∧ SprAt H s g ∧ 0 < n ∧ n < 2 ^ 40 ∧ ∀ r H', 0 ≤ r → r < n → SprAt H' s g → Frm s g H H' → Q (.int r) H'
theorem log_40 {n : Int} (h0 : 0 < n) (h : n < 2 ^ 40) : n.natAbs.log2 < 9000 := by
  have h1 : n.natAbs < 2 ^ 40 := by omega
  exact Nat.lt_trans ((Nat.log2_lt (by omega)).mpr h1) (by decide)
theorem ok__law_drop (Y : Fx K mg) : FnOk P w K mg base CX0 1 Y.a__law_drop Y.fd__law_drop ["_law_spring_here", "_law_many"] (sp__law_drop K) := by
  refine Y.F__law_drop.ok sc__law_drop (fun vs H Q E h => ?_) (fun cdv A outer st H vs Q E hr h => ?_)
  · obtain ⟨s, g, n, rfl, _⟩ := h
    rfl
  · obtain ⟨s, g, n, rfl, hSp, hn0, hn1, q⟩ := h
    have hne := hSp.ne
    obtain ⟨gr, m, c, hs, hg, hm0, hm1, hgl⟩ := hSp
    refine ⟨_, b__law_drop Y hr, ?_⟩
    show t__law_drop K _ [some (.ref s), some (.int n), none, none] H
    unfold t__law_drop
    walk_at "rd"
    refine ix_L (lst_of hs) (by rfl) ?_
    walk_at "rd"
    refine w_while (fun k σ H' => σ = [some (.ref s), some (.int n), some (.ref g), none] ∧ ∃ gr : List Int, gr.length = k ∧ gr.length ≤ 1000 ∧ H' s = some (.lst [.ref g, .int m, .int c]) ∧ H' g = some (.lst (gr.map V.int)) ∧ Frm s g H H') gr.length ⟨rfl, gr, rfl, hgl, hs, hg, Frm.refl H⟩ (fun k σ H1 hW => ?_)
    obtain ⟨rfl, gr1, hk, hl1, hs1, hg1, hF1⟩ := hW
    -- what stands behind the loop
    have after : ∀ H2 : Hp, H2 s = some (.lst [.ref g, .int m, .int c]) → H2 g = some (.lst (gr1.map V.int)) → Frm s g H H2 →
        (tSeq (tIfS (tTest (tOp (rNE K) (tVar 2) (tLst tNil))) (tSeq (tAsg (tOp rMOD (tCB rINT (tCons (tOp (rIX K) (tVar 2) (tC (.int 0))) tNil)) (tVar 1)) (gName 3))
      (tSeq (tAsg (tOp rFDIV (tOp (rIX K) (tVar 2) (tC (.int 0))) (tVar 1)) (gSub (tVar 2) (tC (.int 0)) rSetL))
      (tRet (tVar 3)))) tNext)
    (tSeq (tAsg (tOp (rADD K) (tOp (rIX K) (tVar 0) (tC (.int 2))) (tC (.int 1))) (gSub (tVar 0) (tC (.int 2)) rSetL))
    (tSeq (tAsg (tOp rMOD (tCB rINT (tCons (tOp (rADD K) (tOp (rMUL K) (tOp (rIX K) (tVar 0) (tC (.int 1))) (tC (.int 6364136223846793005))) (tOp (rMUL K) (tOp (rIX K) (tVar 0) (tC (.int 2))) (tC (.int 1442695040888963407)))) tNil)) (tC (.int 2305843009213693951))) (gSub (tVar 0) (tC (.int 1)) rSetL))
    (tRet (tOp rMOD (tOp rFDIV (tOp rMOD (tCB rINT (tCons (tOp (rMUL K) (tOp (rIX K) (tVar 0) (tC (.int 1))) (tOp (rIX K) (tVar 0) (tC (.int 1)))) tNil)) (tC (.int 2305843009213693921))) (tC (.int 1048576))) (tVar 1))))))
        { nx := fun _ H' => Q .non H', rt := Q } [some (.ref s), some (.int n), some (.ref g), none] H2 := by
      intro H2 hs2 hg2 hF2
      walk_at "rd"
      refine ⟨Nat.zero_le _, fun p hp => ?_⟩
      have hs3 : (upd H2 p (.lst [])) s = some (.lst [.ref g, .int m, .int c]) := by rw [upd_ne (ne_of_none hs2 hp)]; exact hs2
      have hg3 : (upd H2 p (.lst [])) g = some (.lst (gr1.map V.int)) := by rw [upd_ne (ne_of_none hg2 hp)]; exact hg2
      have hF3 : Frm s g H (upd H2 p (.lst [])) := hF2.new hp
      refine ne_d (dp_ints gr1 (lst_of hg3)) (.lst (lst_of upd_same) .nil) (shaped_ints gr1) (by decide) ?_
      generalize upd H2 p (.lst []) = H3 at hs3 hg3 hF3
      cases gr1 with
      | nil =>
        show ∃ k, V.bl (!true) = .bl k ∧ _
        walk_at "rd"
        refine ix_L (lst_of hs3) (by rfl) ?_
        walk_at "rd"
        refine st_L hs3 (by decide) (by show (2 : Int) < 3; decide) ?_
        have hs4 : (upd H3 s (.lst [.ref g, .int m, .int (c + 1)])) s = some (.lst [.ref g, .int m, .int (c + 1)]) := upd_same
        have hg4 : (upd H3 s (.lst [.ref g, .int m, .int (c + 1)])) g = some (.lst (([] : List Int).map V.int)) := by rw [upd_ne (Ne.symm hne)]; exact hg3
        have hF4 : Frm s g H (upd H3 s (.lst [.ref g, .int m, .int (c + 1)])) := hF3.updS
        show tSeq _ _ _ _ (upd H3 s (.lst [.ref g, .int m, .int (c + 1)]))
        generalize upd H3 s (.lst [.ref g, .int m, .int (c + 1)]) = H4 at hs4 hg4 hF4
        walk_at "rd"
        refine ix_L (lst_of hs4) (by rfl) ?_
        walk_at "rd"
        refine m_ii (.inl (.inr (by decide))) ?_
        walk_at "rd"
        refine ix_L (lst_of hs4) (by rfl) ?_
        walk_at "rd"
        refine m_ii (.inl (.inr (by decide))) ?_
        walk_at "rd"
        generalize he : (m * 6364136223846793005 + (c + 1) * 1442695040888963407) % 2305843009213693951 = m2
        have b0 : 0 ≤ m2 := by rw [← he]; exact Int.emod_nonneg _ (by decide)
        have b1 : m2 < 2305843009213693951 := by rw [← he]; exact Int.emod_lt_of_pos _ (by decide)
        refine st_L hs4 (by decide) (by show (1 : Int) < 3; decide) ?_
        have hs5 : (upd H4 s (.lst [.ref g, .int m2, .int (c + 1)])) s = some (.lst [.ref g, .int m2, .int (c + 1)]) := upd_same
        have hg5 : (upd H4 s (.lst [.ref g, .int m2, .int (c + 1)])) g = some (.lst (([] : List Int).map V.int)) := by rw [upd_ne (Ne.symm hne)]; exact hg4
        have hF5 : Frm s g H (upd H4 s (.lst [.ref g, .int m2, .int (c + 1)])) := hF4.updS
        show tRet _ _ _ (upd H4 s (.lst [.ref g, .int m2, .int (c + 1)]))
        generalize upd H4 s (.lst [.ref g, .int m2, .int (c + 1)]) = H5 at hs5 hg5 hF5
        walk_at "rd"
        refine ix_L (lst_of hs5) (by rfl) ?_
        walk_at "rd"
        refine ix_L (lst_of hs5) (by rfl) ?_
        refine m_ii (.inl (.inl ⟨by omega, by omega⟩)) ?_
        walk_at "rd"
        refine fd_ii ⟨by decide, by decide⟩ ?_
        walk_at "rd"
        exact q _ _ (Int.emod_nonneg _ (by omega)) (Int.emod_lt_of_pos _ hn0) ⟨[], m2, c + 1, hs5, hg5, b0, by omega, by decide⟩ hF5
      | cons x xs =>
        show ∃ k, V.bl (!false) = .bl k ∧ _
        walk_at "rd"
        refine ix_L (lst_of hg3) (at_nat (by decide) rfl) ?_
        walk_at "rd"
        refine ix_L (lst_of hg3) (at_nat (by decide) rfl) ?_
        walk_at "rd"
        refine fd_ii ⟨hn0, log_40 hn0 hn1⟩ ?_
        walk_at "rd"
        refine st_L hg3 (by decide) (by show (0 : Int) < ((xs.map V.int).length + 1 : Nat); omega) ?_
        walk_at "rd"
        refine q _ _ (Int.emod_nonneg _ (by omega)) (Int.emod_lt_of_pos _ hn0) ⟨(x / n) :: xs, m, c, ?_, upd_same, hm0, hm1, hl1⟩ hF3.updG
        rw [upd_ne hne]
        exact hs3
    walk_at "rd"
    refine ⟨Nat.zero_le _, fun p hp => ?_⟩
    have hs3 : (upd H1 p (.lst [])) s = some (.lst [.ref g, .int m, .int c]) := by rw [upd_ne (ne_of_none hs1 hp)]; exact hs1
    have hg3 : (upd H1 p (.lst [])) g = some (.lst (gr1.map V.int)) := by rw [upd_ne (ne_of_none hg1 hp)]; exact hg1
    have hF3 : Frm s g H (upd H1 p (.lst [])) := hF1.new hp
    refine ne_d (dp_ints gr1 (lst_of hg3)) (.lst (lst_of upd_same) .nil) (shaped_ints gr1) (by decide) ?_
    generalize upd H1 p (.lst []) = H3 at hs3 hg3 hF3
    cases gr1 with
    | nil =>
      show ∃ k, V.bl (!true) = .bl k ∧ _
      refine x_bl2 ?_
      refine iteNt ?_
      refine iteF ?_
      exact after H3 hs3 hg3 hF3
    | cons x xs =>
      show ∃ k, V.bl (!false) = .bl k ∧ _
      walk_at "rd"
      refine ix_L (lst_of hg3) (at_nat (by decide) rfl) ?_
      walk_at "rd"
      refine ite2' (fun e => ?_) (fun e => ?_)
      · refine ⟨fun σ' H' => ∃ k', k' < k ∧ (σ' = [some (.ref s), some (.int n), some (.ref g), none] ∧ ∃ gr : List Int, gr.length = k' ∧ gr.length ≤ 1000 ∧ H' s = some (.lst [.ref g, .int m, .int c]) ∧ H' g = some (.lst (gr.map V.int)) ∧ Frm s g H H'), fun _ _ h => h, ?_⟩
        walk_at "rd"
        refine x_tyL (lst_of hg3) ?_
        walk_at "rd"
        refine pop_L hg3 ?_
        refine ⟨xs.length, by rw [← hk]; exact Nat.lt_succ_self _, rfl, xs, rfl, Nat.le_of_succ_le hl1, ?_, upd_same, hF3.updG⟩
        rw [upd_ne hne]
        exact hs3
      · exact after H3 hs3 hg3 hF3
end
end My

set_option Elab.async false
set_option linter.all false
set_option maxRecDepth 100000
set_option maxHeartbeats 1000000
namespace My
open PySem PySem.Spec PyProof.Rows L2
local macro_rules | `(tactic| walk_at "len") => `(tactic| first | assumption | omega | decide | (simp only [List.length_append, List.length_take, List.length_drop, List.length_cons, List.length_nil, List.length_replicate]; omega))
local macro_rules | `(tactic| walk_at "side") => `(tactic| first | assumption | exact Nat.zero_le _ | decide | omega)
local macro_rules | `(tactic| walk_at "rd1") => `(tactic| first
  | with_reducible refine s_seq ?_
  | with_reducible refine x_gsub ?_
  | with_reducible refine s_asg ?_
  | ((with_reducible refine s_gn ?_); dsimp only [List.set])
  | ((with_reducible refine x_var (v := ?rdv) ?rdhv ?_); (case rdhv => rfl))
  | with_reducible refine x_c ?_
  | with_reducible refine x_op ?_
  | with_reducible refine x_cons ?_
  | with_reducible refine x_nil ?_
  | with_reducible refine x_cb ?_
  | with_reducible refine x_call ?_
  | with_reducible refine s_if ?_
  | with_reducible refine s_ret ?_
  | with_reducible refine s_retN ?_
  | with_reducible refine s_next ?_
  | with_reducible refine s_brk ?_
  | with_reducible refine s_cont ?_
  | with_reducible refine s_drop ?_
  | with_reducible refine s_par ?_
  | with_reducible refine s_par3 ?_
  | ((with_reducible refine s_p2 ?_); dsimp only [List.set])
  | ((with_reducible refine s_p3 ?_); dsimp only [List.set])
  | with_reducible refine f_r1 ?_
  | with_reducible refine f_r2 ?_
  | with_reducible refine f_l ?_
  | with_reducible refine f_t ?_
  | with_reducible refine f_s ?_
  | with_reducible refine c_r1 ?_
  | with_reducible refine c_r2 ?_
  | with_reducible refine c_l ?_
  | with_reducible refine c_t ?_
  | with_reducible refine c_s ?_
  | with_reducible refine x_tst ?_
  | with_reducible refine x_tru ?_
  | with_reducible refine x_truB ?_
  | with_reducible refine x_bl2 ?_
  | with_reducible refine x_int ?_
  | with_reducible refine x_str ?_
  | with_reducible refine x_not ?_
  | with_reducible refine x_and ?_
  | with_reducible refine x_or ?_
  | with_reducible refine x_andV ?_
  | with_reducible refine x_orV ?_
  | with_reducible refine x_notV ?_
  | with_reducible refine x_if ?_
  | with_reducible refine x_yes ?_
  | with_reducible refine x_un ?_
  | with_reducible refine x_tup ?_
  | with_reducible refine x_lst ?_
  | with_reducible refine x_callK ?_
  | with_reducible refine x_callK0 ?_
  | with_reducible refine x_bm ?_
  | with_reducible refine x_bm0 ?_
  | with_reducible refine x_tyS ?_
  | with_reducible refine x_sl ?_
  | with_reducible refine x_nopart ?_
  | with_reducible refine x_part ?_
  | with_reducible refine x_fmt0 ?_
  | with_reducible refine x_fmt ?_
  | with_reducible refine x_chain ?_
  | with_reducible refine a_ii ?_
  | ((with_reducible refine sl_to ?rda ?rdb ?_); (case rda => walk_at "len"); (case rdb => walk_at "len"))
  | ((with_reducible refine sl_from ?rda ?rdb ?_); (case rda => walk_at "len"); (case rdb => walk_at "len"))
  | ((with_reducible refine sl_mid ?rda ?rdb ?rdc ?_); (case rda => walk_at "len"); (case rdb => walk_at "len"); (case rdc => walk_at "len"))
  | ((with_reducible refine a_SS ?rda ?_); (case rda => walk_at "len"))
  | ((with_reducible refine ln_S ?rda ?_); (case rda => walk_at "len"))
  | with_reducible refine e_SS ?_
  | with_reducible refine ne_SS ?_
  | with_reducible refine s_ii ?_
  | ((with_reducible refine md_ii ?rdc ?_); (case rdc => first | decide | assumption | omega))
  | with_reducible refine n_i ?_
  | with_reducible refine e_ii ?_
  | with_reducible refine e_bb ?_
  | with_reducible refine ne_ii ?_
  | with_reducible refine ne_bb ?_
  | with_reducible refine lt_ii ?_
  | with_reducible refine lt_ss ?_
  | with_reducible refine le_ii ?_
  | with_reducible refine gt_ii ?_
  | with_reducible refine gt_ss ?_
  | with_reducible refine ge_ii ?_
  | with_reducible refine e_ss ?_
  | with_reducible refine ne_ss ?_
  | with_reducible refine is_N ?_
  | with_reducible refine is_T ?_
  | with_reducible refine is_B ?_
  | with_reducible refine isn_N ?_
  | with_reducible refine isn_T ?_
  | with_reducible refine isn_B ?_
  | with_reducible refine in_s ?_
  | with_reducible refine nin_s ?_
  | with_reducible refine i_i ?_
  | with_reducible refine i_b ?_
  | with_reducible refine ab_i ?_
  | with_reducible refine mx_ii ?_
  | with_reducible refine mn_ii ?_
  | with_reducible refine ty_N ?_
  | with_reducible refine ty_B ?_
  | with_reducible refine ty_I ?_
  | with_reducible refine ty_S ?_
  | with_reducible refine ma_s ?_
  | with_reducible refine mp_s ?_
  | with_reducible refine mdg_s ?_
  | with_reducible refine mf_s ?_
  | with_reducible refine iteT ?_
  | with_reducible refine iteF ?_
  | with_reducible refine iteNt ?_
  | with_reducible refine iteNf ?_
  | with_reducible refine iteTd (by decide) ?_
  | with_reducible refine iteFd (by decide) ?_
  | with_reducible refine iteNd (by decide) ?_
  | with_reducible refine iteNdF (by decide) ?_
  | ((with_reducible refine iteFd ?rdn ?_); (case rdn => (intro rdz; cases rdz; done)))
  | ((with_reducible refine iteNdF ?rdn ?_); (case rdn => (intro rdz; cases rdz; done))))
local macro_rules | `(tactic| walk_at "rd") => `(tactic| (repeat walk_at "rd1"))
section
variable {P : Program} {w : World} {K : PySem.W.Frag} {mg : Str → Option Value} {base : Heap}
theorem map_get {ns : List Int} {i : Nat} {x : V} (h : (ns.map V.int)[i]? = some x) : ∃ z, ns[i]? = some z ∧ x = .int z := by
  rw [List.getElem?_map] at h
  cases e : ns[i]? with
  | none => rw [e] at h; cases h
  | some z =>
    rw [e] at h
    exact ⟨z, rfl, (Option.some.inj h).symm⟩
/-! the spring's making -/
def sp__law_spring (K : PySem.W.Frag) : Sp := fun vs H Q _ => ∃ (a : Addr) (ns : List Int), vs = [.ref a] ∧ SqL K H a (ns.map V.int) ∧ ns.length ≤ 63 ∧ ∀ s g H', H s = none → H g = none → SprAt H' s g → Same H H' → Q (.ref s) H'
theorem ok__law_spring (Y : Fx K mg) : FnOk P w K mg base CX0 1 Y.a__law_spring Y.fd__law_spring ["_law_script"] (sp__law_spring K) := by
  refine Y.F__law_spring.ok sc__law_spring (fun vs H Q E h => ?_) (fun cdv A outer st H vs Q E hr h => ?_)
  · obtain ⟨a, ns, rfl, _⟩ := h
    rfl
  · obtain ⟨a, ns, rfl, hS, hl, q⟩ := h
    refine ⟨_, b__law_spring Y hr, ?_⟩
    show t__law_spring K _ [some (.ref a), none, none, none] H
    unfold t__law_spring
    walk_at "rd"
    refine lcL_mk hS (fun D i H' => Same H H' ∧ ∃ gr : List Int, gr.length ≤ i ∧ H' D = some (.lst (gr.map V.int))) (fun D hD => ⟨same_upd hD, [], Nat.le_refl _, upd_same⟩) (fun D i H' hD _ hp => hp.1.seq hS) (fun D i x H' hD hx hp => ?_) (fun D H1 hD hp => ?_)
    · obtain ⟨hs, gr, hgl, hg⟩ := hp
      obtain ⟨z, hz, rfl⟩ := map_get hx
      refine ⟨rfl, ?_⟩
      walk_at "rd"
      refine pw_ii ⟨by decide, by decide, by decide⟩ ?_
      walk_at "rd"
      refine ite2' (fun e => ?_) (fun e => ?_)
      · walk_at "rd"
        refine pw_ii ⟨by decide, by decide, by decide⟩ ?_
        walk_at "rd"
        have hil : i < ns.length := (List.getElem?_eq_some_iff.mp hz).1
        refine ⟨_, hg, Nat.lt_of_le_of_lt (show (gr.map V.int).length ≤ 100 by rw [List.length_map]; omega) (by decide), same_mut hs hD, gr ++ [z - 10 ^ Int.toNat 18], ?_, ?_⟩
        · rw [List.length_append]
          exact Nat.succ_le_succ hgl
        · rw [upd_same, List.map_append]
          rfl
      · exact ⟨hs, gr, Nat.le_succ_of_le hgl, hg⟩
    · obtain ⟨hs, gr, hgl, hg⟩ := hp
      walk_at "rd"
      refine ln_l (hs.seq hS) ?_
      refine m_ii (.inl (.inl ⟨by decide, by decide⟩)) ?_
      walk_at "rd"
      rw [List.length_map] at hgl
      rw [List.length_map]
      refine forL_mk (hs.seq hS) (fun i σ H' => ∃ (y : Option V) (m : Int), σ = [some (.ref a), some (.ref D), y, some (.int m)] ∧ 0 ≤ m ∧ m < 2 ^ 62 ∧ H' = H1) ⟨none, _, rfl, by omega, by omega, rfl⟩ (fun i σ H' _ hp => by obtain ⟨y, m, _, _, _, rfl⟩ := hp; exact hs.seq hS) (fun i x σ H' hx hp => ?_) (fun σ H' hp => ?_)
      · obtain ⟨y, m, rfl, hm0, hm1, rfl⟩ := hp
        obtain ⟨z, hz, rfl⟩ := map_get hx
        walk_at "rd"
        refine m_ii (.inl (.inr (by decide))) ?_
        walk_at "rd"
        refine m_ii (.inl (.inr (by decide))) ?_
        walk_at "rd"
        refine ⟨_, _, rfl, Int.emod_nonneg _ (by decide), Int.lt_trans (Int.emod_lt_of_pos _ (by decide)) (by decide), rfl⟩
      · obtain ⟨y, m, rfl, hm0, hm1, rfl⟩ := hp
        walk_at "rd"
        refine ⟨by show 3 ≤ sizeLine; decide, fun s hsn => ?_⟩
        have hsH : H s = none := hs.free hsn
        refine q s D _ hsH hD ⟨gr, m, 0, upd_same, by rw [upd_ne (ne_of_none hg hsn)]; exact hg, hm0, hm1, by omega⟩ (same_new hs hsn)
/-! a drawn text -/
def allS : List Nat := [32, 33, 34, 35, 36, 38, 39, 40, 41, 42, 43, 44, 45, 46, 47, 48, 49, 50, 51, 52, 53, 54, 55, 56, 57, 58, 59, 60, 61, 62, 63, 64, 65, 66, 67, 68, 69, 70, 71, 72, 73, 74, 75, 76, 77, 78, 79, 80, 81, 82, 83, 84, 85, 86, 87, 88, 89, 90, 91, 92, 93, 94, 95, 96, 97, 98, 99, 100, 101, 102, 103, 104, 105, 106, 107, 108, 109, 110, 111, 112, 113, 114, 115, 116, 117, 118, 119, 120, 121, 122, 123, 124, 125, 126]
theorem flat_len : ∀ {cs : List (List Nat)}, (∀ c ∈ cs, c.length = 1) → cs.flatten.length = cs.length
  | [], _ => rfl
  | c :: cs, h => by
    rw [List.flatten_cons, List.length_append, h c (List.mem_cons_self ..), flat_len fun d hd => h d (List.mem_cons_of_mem _ hd), List.length_cons]
    omega
theorem isT_flat {cs : List (List Nat)} (h : ∀ c ∈ cs, isT c = true) : isT cs.flatten = true := isT_of fun x hx => by
  obtain ⟨c, hc, hm⟩ := List.mem_flatten.mp hx
  exact isT_mem (h c hc) hm
theorem repl_len (k : Nat) (l : List Nat) : (List.replicate k l).flatten.length = k * l.length := by
  rw [List.length_flatten, List.map_replicate, List.sum_replicate_nat]
theorem isT_get {l : List Nat} (h : isT l = true) {i c : Nat} (hc : l[i]? = some c) : isT [c] = true := isT_of fun x hx => by
  rw [List.mem_singleton] at hx
  subst hx
  exact isT_mem h (List.mem_of_getElem? hc)
def sp__law_text (K : PySem.W.Frag) : Sp := fun vs H Q _ => ∃ (s g : Addr) (n : Nat), vs = [.ref s, .int n] ∧ SprAt H s g ∧ n ≤ 100000 ∧ ∀ l H', l.length = n → isT l = true → SprAt H' s g → Frm s g H H' → Q (.str (S l)) H'
theorem ok__law_text (Y : Fx K mg) : FnOk P w K mg base CX0 2 Y.a__law_text Y.fd__law_text ["_law_spring_here", "_law_size"] (sp__law_text K) := by
  refine Y.F__law_text.ok sc__law_text (fun vs H Q E h => ?_) (fun cdv A outer st H vs Q E hr h => ?_)
  · obtain ⟨s, g, n, rfl, _⟩ := h
    rfl
  · obtain ⟨s, g, n, rfl, hSp, hn, q⟩ := h
    refine ⟨_, b__law_text Y (ok__law_drop Y) hr, ?_⟩
    show t__law_text K _ _ [some (.ref s), some (.int n), none, none, none, none, none] H
    unfold t__law_text
    walk_at "rd"
    refine s_cut (fun σ' H' => ∃ sg : List Nat, σ' = [some (.ref s), some (.int n), some (.str (S sg)), none, none, none, none] ∧ isT sg = true ∧ 0 < sg.length ∧ sg.length ≤ 100 ∧ SprAt H' s g ∧ Frm s g H H') ?_ ?_
    · walk_at "rd"
      refine ⟨s, g, 4, rfl, hSp, by decide, by decide, fun r H1 h0 h1 hSp1 hF1 => ?_⟩
      walk_at "rd"
      refine ite2' (fun e => ?_) (fun e => ?_)
      · walk_at "rd"
        exact ⟨[48, 49, 50, 51, 52, 53, 54, 55, 56, 57, 43, 46, 43, 46, 48, 32], rfl, by decide, by decide, by decide, hSp1, hF1⟩
      · walk_at "rd"
        exact ⟨allS, rfl, by decide, by decide, by decide, hSp1, hF1⟩
    · rintro σ' H1 ⟨sg, rfl, hT, hl0, hl1, hSp1, hF1⟩
      walk_at "rd"
      refine ⟨s, g, 4, rfl, hSp1, by decide, by decide, fun r H2 h0 h1 hSp2 hF2 => ?_⟩
      walk_at "rd"
      refine lcR1_mk (by omega) (by omega) (fun D i H' => SprAt H' s g ∧ Frm s g H H' ∧ ∃ cs : List (List Nat), H' D = some (.lst ((cs.map S).map V.str)) ∧ cs.length = i ∧ (∀ c ∈ cs, c.length = 1) ∧ ∀ c ∈ cs, isT c = true) (fun D hD => ⟨hSp2.new hD, ((hF1.trans hF2).new hD), [], upd_same, rfl, (by intro _ h; cases h), (by intro _ h; cases h)⟩) (fun D i H' hD hi hp => ?_) (fun D H3 hD hp => ?_)
      · obtain ⟨hSp3, hF3, cs, hc, hcl, hc1, hc2⟩ := hp
        refine ⟨rfl, ?_⟩
        walk_at "rd"
        refine ⟨s, g, sg.length, rfl, hSp3, by omega, by omega, fun r2 H4 h2 h3 hSp4 hF4 => ?_⟩
        walk_at "rd"
        refine ix_SS h2 h3 (by omega) fun c hcc => ?_
        obtain ⟨o1, o2⟩ := hSp2.off hD
        have hc4 := hF4 D _ o1 o2 hc
        refine ⟨_, hc4, ?_, hSp4.keep o1 o2, ?_, cs ++ [[c]], ?_, ?_, ?_, ?_⟩
        · rw [List.length_map, List.length_map]
          exact Nat.lt_of_le_of_lt (show cs.length ≤ 100 by omega) (by decide)
        · intro x u e1 e2 e3
          have e4 := (hF3.trans hF4) x u e1 e2 e3
          have e5 : x ≠ D := by
            rintro rfl
            have e6 := (hF1.trans hF2) x u e1 e2 e3
            rw [hD] at e6
            cases e6
          rw [upd_ne e5]
          exact e4
        · rw [upd_same, List.map_append, List.map_append]
          rfl
        · rw [List.length_append, hcl]
          rfl
        · intro d hd
          rcases List.mem_append.mp hd with h | h
          · exact hc1 d h
          · rw [List.mem_singleton.mp h]; rfl
        · intro d hd
          rcases List.mem_append.mp hd with h | h
          · exact hc2 d h
          · rw [List.mem_singleton.mp h]; exact isT_get hT hcc
      · obtain ⟨hSp3, hF3, cs, hc, hcl, hc1, hc2⟩ := hp
        walk_at "rd"
        have hfl := flat_len hc1
        refine jn_0 (lst_of hc) (by omega) ?_
        have hfT := isT_flat hc2
        generalize cs.flatten = wd at hfl hfT
        walk_at "rd"
        refine m_SI (by omega) (by omega) (by rw [Int.toNat_natCast]; calc _ ≤ 4 * 100000 := Nat.mul_le_mul (by omega) hn
              _ ≤ 1000000 := by decide) ?_
        rw [Int.toNat_natCast]
        have hrl := repl_len n wd
        have hrT : isT (List.replicate n wd).flatten = true := isT_flat fun c hc => by rw [(List.mem_replicate.mp hc).2]; exact hfT
        have hrl1 : (List.replicate n wd).flatten.length ≤ 1000000 := by
          rw [hrl]
          calc _ ≤ 100000 * 10 := Nat.mul_le_mul hn (by omega)
            _ ≤ 1000000 := by decide
        have hrl2 : n ≤ (List.replicate n wd).flatten.length := by
          rw [hrl]
          exact Nat.le_mul_of_pos_right n (by omega)
        generalize (List.replicate n wd).flatten = rp at hrT hrl1 hrl2
        clear hrl
        walk_at "rd"
        rw [Int.toNat_natCast]
        have htl : (rp.take n).length = n := by rw [List.length_take]; omega
        have htT : isT (rp.take n) = true := isT_take n hrT
        generalize rp.take n = tx at htl htT
        refine ⟨s, g, n + 1, rfl, hSp3, by omega, by omega, fun r3 H4 h2 h3 hSp4 hF4 => ?_⟩
        walk_at "rd"
        refine ⟨s, g, sg.length, rfl, hSp4, by omega, by omega, fun r4 H5 h4 h5 hSp5 hF5 => ?_⟩
        walk_at "rd"
        refine ix_SS h4 h5 (by omega) fun c hcc => ?_
        walk_at "rd"
        refine q _ H5 ?_ ?_ hSp5 ((hF3.trans hF4).trans hF5)
        · simp only [List.length_append, List.length_take, List.length_drop, List.length_cons, List.length_nil]
          omega
        · refine isT_take _ ?_
          rw [isT_app, isT_app, isT_take _ htT, isT_get hT hcc, isT_drop _ htT]
          rfl
end
end My

set_option Elab.async false
set_option linter.all false
set_option maxRecDepth 100000
set_option maxHeartbeats 1000000
namespace My
open PySem PySem.Spec PyProof.Rows L2
local macro_rules | `(tactic| walk_at "len") => `(tactic| first | assumption | omega | decide | (simp only [List.length_append, List.length_take, List.length_drop, List.length_cons, List.length_nil, List.length_replicate]; omega))
local macro_rules | `(tactic| walk_at "side") => `(tactic| first | assumption | exact Nat.zero_le _ | decide | omega)
local macro_rules | `(tactic| walk_at "rd1") => `(tactic| first
  | with_reducible refine s_seq ?_
  | with_reducible refine x_gsub ?_
  | with_reducible refine s_asg ?_
  | ((with_reducible refine s_gn ?_); dsimp only [List.set])
  | ((with_reducible refine x_var (v := ?rdv) ?rdhv ?_); (case rdhv => rfl))
  | with_reducible refine x_c ?_
  | with_reducible refine x_op ?_
  | with_reducible refine x_cons ?_
  | with_reducible refine x_nil ?_
  | with_reducible refine x_cb ?_
  | with_reducible refine x_call ?_
  | with_reducible refine s_if ?_
  | with_reducible refine s_ret ?_
  | with_reducible refine s_retN ?_
  | with_reducible refine s_next ?_
  | with_reducible refine s_brk ?_
  | with_reducible refine s_cont ?_
  | with_reducible refine s_drop ?_
  | with_reducible refine s_par ?_
  | with_reducible refine s_par3 ?_
  | ((with_reducible refine s_p2 ?_); dsimp only [List.set])
  | ((with_reducible refine s_p3 ?_); dsimp only [List.set])
  | with_reducible refine f_r1 ?_
  | with_reducible refine f_r2 ?_
  | with_reducible refine f_l ?_
  | with_reducible refine f_t ?_
  | with_reducible refine f_s ?_
  | with_reducible refine c_r1 ?_
  | with_reducible refine c_r2 ?_
  | with_reducible refine c_l ?_
  | with_reducible refine c_t ?_
  | with_reducible refine c_s ?_
  | with_reducible refine x_tst ?_
  | with_reducible refine x_tru ?_
  | with_reducible refine x_truB ?_
  | with_reducible refine x_bl2 ?_
  | with_reducible refine x_int ?_
  | with_reducible refine x_str ?_
  | with_reducible refine x_not ?_
  | with_reducible refine x_and ?_
  | with_reducible refine x_or ?_
  | with_reducible refine x_andV ?_
  | with_reducible refine x_orV ?_
  | with_reducible refine x_notV ?_
  | with_reducible refine x_if ?_
  | with_reducible refine x_yes ?_
  | with_reducible refine x_un ?_
  | with_reducible refine x_tup ?_
  | with_reducible refine x_lst ?_
  | with_reducible refine x_callK ?_
  | with_reducible refine x_callK0 ?_
  | with_reducible refine x_bm ?_
  | with_reducible refine x_bm0 ?_
  | with_reducible refine x_tyS ?_
  | with_reducible refine x_sl ?_
  | with_reducible refine x_nopart ?_
  | with_reducible refine x_part ?_
  | with_reducible refine x_fmt0 ?_
  | with_reducible refine x_fmt ?_
  | with_reducible refine x_chain ?_
  | with_reducible refine a_ii ?_
  | ((with_reducible refine sl_to ?rda ?rdb ?_); (case rda => walk_at "len"); (case rdb => walk_at "len"))
  | ((with_reducible refine sl_from ?rda ?rdb ?_); (case rda => walk_at "len"); (case rdb => walk_at "len"))
  | ((with_reducible refine sl_mid ?rda ?rdb ?rdc ?_); (case rda => walk_at "len"); (case rdb => walk_at "len"); (case rdc => walk_at "len"))
  | ((with_reducible refine a_SS ?rda ?_); (case rda => walk_at "len"))
  | ((with_reducible refine ln_S ?rda ?_); (case rda => walk_at "len"))
  | with_reducible refine e_SS ?_
  | with_reducible refine ne_SS ?_
  | with_reducible refine s_ii ?_
  | ((with_reducible refine md_ii ?rdc ?_); (case rdc => first | decide | assumption | omega))
  | with_reducible refine n_i ?_
  | with_reducible refine e_ii ?_
  | with_reducible refine e_bb ?_
  | with_reducible refine ne_ii ?_
  | with_reducible refine ne_bb ?_
  | with_reducible refine lt_ii ?_
  | with_reducible refine lt_ss ?_
  | with_reducible refine le_ii ?_
  | with_reducible refine gt_ii ?_
  | with_reducible refine gt_ss ?_
  | with_reducible refine ge_ii ?_
  | with_reducible refine e_ss ?_
  | with_reducible refine ne_ss ?_
  | with_reducible refine is_N ?_
  | with_reducible refine is_T ?_
  | with_reducible refine is_B ?_
  | with_reducible refine isn_N ?_
  | with_reducible refine isn_T ?_
  | with_reducible refine isn_B ?_
  | with_reducible refine in_s ?_
  | with_reducible refine nin_s ?_
  | with_reducible refine i_i ?_
  | with_reducible refine i_b ?_
  | with_reducible refine ab_i ?_
  | with_reducible refine mx_ii ?_
  | with_reducible refine mn_ii ?_
  | with_reducible refine ty_N ?_
  | with_reducible refine ty_B ?_
  | with_reducible refine ty_I ?_
  | with_reducible refine ty_S ?_
  | with_reducible refine ma_s ?_
  | with_reducible refine mp_s ?_
  | with_reducible refine mdg_s ?_
  | with_reducible refine mf_s ?_
  | with_reducible refine iteT ?_
  | with_reducible refine iteF ?_
  | with_reducible refine iteNt ?_
  | with_reducible refine iteNf ?_
  | with_reducible refine iteTd (by decide) ?_
  | with_reducible refine iteFd (by decide) ?_
  | with_reducible refine iteNd (by decide) ?_
  | with_reducible refine iteNdF (by decide) ?_
  | ((with_reducible refine iteFd ?rdn ?_); (case rdn => (intro rdz; cases rdz; done)))
  | ((with_reducible refine iteNdF ?rdn ?_); (case rdn => (intro rdz; cases rdz; done))))
local macro_rules | `(tactic| walk_at "rd") => `(tactic| (repeat walk_at "rd1"))
section
variable {P : Program} {w : World} {K : PySem.W.Frag} {mg : Str → Option Value} {base : Heap}
/-! the law's own judge of two values that are alike -/
def isBo : PyData → Bool | .bool _ => true | _ => false
def isIn : PyData → Bool | .bool _ => true | .int _ => true | _ => false
def isSt : PyData → Bool | .str _ => true | _ => false
def isTu : PyData → Bool | .tuple _ => true | _ => false
def isLi : PyData → Bool | .list _ => true | _ => false
def isNo : PyData → Bool | .none => true | _ => false
def kinds6 (d : PyData) : List Bool := [isBo d, isIn d, isSt d] ++ [isTu d, isLi d, isNo d]
theorem kit_bo {H : Hp} {x : V} {d : PyData} (h : Dp K H x d) : kitB (tyName d) "bool" = some (isBo d) := by cases h <;> first | rfl | decide +kernel
theorem kit_in {H : Hp} {x : V} {d : PyData} (h : Dp K H x d) : kitB (tyName d) "int" = some (isIn d) := by cases h <;> first | rfl | decide +kernel
theorem kit_st {H : Hp} {x : V} {d : PyData} (h : Dp K H x d) : kitB (tyName d) "str" = some (isSt d) := by cases h <;> first | rfl | decide +kernel
theorem kit_tu {H : Hp} {x : V} {d : PyData} (h : Dp K H x d) : kitB (tyName d) "tuple" = some (isTu d) := by cases h <;> first | rfl | decide +kernel
theorem kit_li {H : Hp} {x : V} {d : PyData} (h : Dp K H x d) : kitB (tyName d) "list" = some (isLi d) := by cases h <;> first | rfl | decide +kernel
theorem non_d {H : Hp} {x : V} {d : PyData} (h : Dp K H x d) : decide (x = .non) = isNo d := by cases h <;> rfl
def sp__law_kinds (K : PySem.W.Frag) : Sp := fun vs H Q _ => ∃ (x : V) (d : PyData), vs = [x] ∧ Dp K H x d ∧ ∀ p H', Same H H' → H' p = some (.lst ((kinds6 d).map V.bl)) → Q (.ref p) H'
theorem ok__law_kinds (Y : Fx K mg) : FnOk P w K mg base CX0 1 Y.a__law_kinds Y.fd__law_kinds ["_law_thing"] (sp__law_kinds K) := by
  refine Y.F__law_kinds.ok sc__law_kinds (fun vs H Q E h => ?_) (fun cdv A outer st H vs Q E hr h => ?_)
  · obtain ⟨x, d, rfl, _⟩ := h
    rfl
  · obtain ⟨x, d, rfl, hd, q⟩ := h
    refine ⟨_, b__law_kinds Y hr, ?_⟩
    show t__law_kinds K _ [some x, none] H
    unfold t__law_kinds
    walk_at "rd"
    refine isi_d hd (kit_bo hd) ?_
    walk_at "rd"
    refine isi_d hd (kit_in hd) ?_
    walk_at "rd"
    refine isi_d hd (kit_st hd) ?_
    walk_at "rd"
    refine ⟨by show 3 ≤ sizeLine; decide, fun p hp => ?_⟩
    have hd2 := dp_mono (same_upd (o := .lst [V.bl (isBo d), V.bl (isIn d), V.bl (isSt d)]) hp) d x hd
    walk_at "rd"
    refine isi_d hd2 (kit_tu hd2) ?_
    walk_at "rd"
    refine isi_d hd2 (kit_li hd2) ?_
    walk_at "rd"
    rw [non_d hd2]
    refine ⟨by show 3 ≤ sizeLine; decide, fun p2 hp2 => ?_⟩
    refine a_ll (by rw [upd_ne (Ne.symm (ne_new upd_same hp2))]; exact upd_same) upd_same (by show 6 ≤ sizeLine; decide) fun p3 hp3 => ?_
    exact q p3 _ (same_new (same_new (same_upd hp) hp2) hp3) upd_same
theorem dp_kinds {H : Hp} {p : Addr} {d : PyData} (h : H p = some (.lst ((kinds6 d).map V.bl))) : Dp K H (.ref p) (.list ((kinds6 d).map PyData.bool)) := dp_bools _ (lst_of h)
theorem shaped_kinds (d : PyData) : SeqAt.shaped (.list ((kinds6 d).map PyData.bool)) = true := by
  have h : ∀ a b c e f g : Bool, SeqAt.shaped (.list (([a, b, c] ++ [e, f, g]).map PyData.bool)) = true := by decide
  exact h _ _ _ _ _ _
def Up (F : PyData → Prop) : PyData → Prop
  | .list ds => ds.length ≤ 100000 ∧ ∀ e ∈ ds, F e
  | .tuple ds => ds.length ≤ 100000 ∧ ∀ e ∈ ds, F e
  | d => SeqAt.shaped d = true
def Fine : Nat → PyData → Prop
  | 0 => Up fun _ => False
  | n + 1 => Up (Fine n)
def spA (F : PyData → Prop) (K : PySem.W.Frag) : Sp := fun vs H Q _ => ∃ (x y : V) (d : PyData), vs = [x, y] ∧ Dp K H x d ∧ Dp K H y d ∧ F d ∧ ∀ H', Same H H' → Q (.bl true) H'
def SqX (K : PySem.W.Frag) (H : Hp) (p : Addr) (xs : List V) : Prop := SqL K H p xs ∨ SqT K H p xs
theorem SqX.mono {H H' : Hp} {p : Addr} {xs : List V} (e : Same H H') (h : SqX K H p xs) : SqX K H' p xs := h.elim (fun h => .inl (e.seq h)) fun h => .inr (same_sqt e h)
theorem ix_X {H : Hp} {Q : VK} {p : Addr} {xs : List V} {i : Int} {v : V} (h : SqX K H p xs) (ha : atI xs i = some v) (q : Q v H) : rIX K (.ref p) (.int i) H Q := h.elim (fun h => ix_L h ha q) fun h => ix_T h ha q
theorem ln_X {H : Hp} {Q : VK} {p : Addr} {xs : List V} (h : SqX K H p xs) (q : Q (.int xs.length) H) : rLEN K [.ref p] H Q := h.elim (fun h => ln_l h q) fun h => ln_t h q
theorem alike_step (Y : Fx K mg) {n : Nat} (hn : 1 ≤ n) (F : PyData → Prop) (G : FnOk P w K mg base CX0 n Y.a__law_alike Y.fd__law_alike ["_law_found", "_law_due"] (spA F K)) :
    FnOk P w K mg base CX0 (n + 1) Y.a__law_alike Y.fd__law_alike ["_law_found", "_law_due"] (spA (Up F) K) := by
  refine Y.F__law_alike.ok sc__law_alike (fun vs H Q E h => ?_) (fun cdv A outer st H vs Q E hr h => ?_)
  · obtain ⟨x, y, d, rfl, _⟩ := h
    rfl
  · obtain ⟨x, y, d, rfl, hx, hy, hF, q⟩ := h
    refine ⟨_, b__law_alike Y G (ok__law_kinds Y) hn hr, ?_⟩
    show t__law_alike K _ _ _ [some x, some y, none] H
    unfold t__law_alike
    walk_at "rd"
    refine ⟨x, d, rfl, hx, fun p1 H1 hS1 h1 => ?_⟩
    walk_at "rd"
    refine ⟨y, d, rfl, dp_mono hS1 d y hy, fun p2 H2 hS2 h2 => ?_⟩
    refine ne_d (dp_kinds (hS2 _ _ h1)) (dp_kinds h2) (shaped_kinds d) (shaped_kinds d) ?_
    rw [eqv_same (shaped_kinds d)]
    walk_at "rd"
    refine ⟨by show 2 ≤ sizeLine; decide, fun p3 hp3 => ?_⟩
    walk_at "rd"
    have hS3 := same_new (hS1.trans hS2) hp3 (o := .tup [V.ty "tuple", V.ty "list"])
    have hx3 := dp_mono hS3 d x hx
    have hy3 := dp_mono hS3 d y hy
    refine isi_d2 hy3 upd_same (kit_tu hy3) (kit_li hy3) rfl ?_
    generalize upd H2 p3 (.tup [V.ty "tuple", V.ty "list"]) = H3 at hS3 hx3 hy3
    have seq : ∀ (ds : List PyData) (px py : Addr) (vx vy : List V), ds.length ≤ 100000 → (∀ e ∈ ds, F e) → SqX K H3 px vx → SqX K H3 py vy → DpAll K H3 vx ds → DpAll K H3 vy ds → x = .ref px → y = .ref py →
        tRet (tAndV (tOp (rEQ K) (tCB (rLEN K) (tCons (tVar 0) tNil)) (tCB (rLEN K) (tCons (tVar 1) tNil))) (tCB (rAll K) (tCons (tLc (iRng1 (tCons (tCB (rLEN K) (tCons (tVar 1) tNil)) tNil)) (gName 2) tYes (tCall (spA F K) [] E0 (tCons (tOp (rIX K) (tVar 0) (tVar 2)) (tCons (tOp (rIX K) (tVar 1) (tVar 2)) tNil))) [2]) tNil)))
          { nx := tRet (tOp (rEQ K) (tVar 0) (tVar 1)) { nx := fun _ H' => Q .non H', rt := Q }, rt := Q } [some x, some y, none] H3 := by
      rintro ds px py vx vy hl hFe hsx hsy hax hay rfl rfl
      have lx := dpAll_len hax
      have ly := dpAll_len hay
      walk_at "rd"
      refine ln_X hsx ?_
      walk_at "rd"
      refine ln_X hsy ?_
      rw [lx, ly]
      walk_at "rd"
      refine iteTd rfl ?_
      walk_at "rd"
      refine ln_X hsy ?_
      walk_at "rd"
      rw [ly]
      refine lcR1_mk (by omega) (by omega) (fun D i H' => Same H3 H' ∧ H' D = some (.lst ((List.replicate i true).map V.bl))) (fun D hD => ⟨same_upd hD, upd_same⟩) (fun D i H' hD hi hp => ?_) (fun D H' hD hp => ?_)
      · obtain ⟨hs, hd⟩ := hp
        rw [Int.toNat_natCast] at hi
        obtain ⟨v1, e1, d1⟩ := dpAll_get hax hi
        obtain ⟨v2, e2, d2⟩ := dpAll_get hay hi
        refine ⟨rfl, ?_⟩
        walk_at "rd"
        refine ix_X (hsx.mono hs) (atI_nat e1) ?_
        walk_at "rd"
        refine ix_X (hsy.mono hs) (atI_nat e2) ?_
        walk_at "rd"
        refine ⟨v1, v2, ds[i], rfl, dp_mono hs _ _ d1, dp_mono hs _ _ d2, hFe _ (List.getElem_mem hi), fun H4 hS4 => ?_⟩
        refine ⟨_, hS4 _ _ hd, ?_, same_mut (hs.trans hS4) hD, ?_⟩
        · rw [List.length_map, List.length_replicate]
          exact Nat.lt_of_le_of_lt (show i ≤ 100000 by omega) (by decide)
        · rw [upd_same, List.replicate_succ', List.map_append]
          rfl
      · obtain ⟨hs, hd⟩ := hp
        walk_at "rd"
        refine al_b (lst_of hd) ?_
        rw [show (List.replicate (Int.toNat ds.length) true).all id = true by simp]
        exact q H' (hS3.trans hs)
    have flat : SeqAt.shaped d = true → isTu d = false → isLi d = false →
        if (isTu d || isLi d) = true then
        tRet (tAndV (tOp (rEQ K) (tCB (rLEN K) (tCons (tVar 0) tNil)) (tCB (rLEN K) (tCons (tVar 1) tNil))) (tCB (rAll K) (tCons (tLc (iRng1 (tCons (tCB (rLEN K) (tCons (tVar 1) tNil)) tNil)) (gName 2) tYes (tCall (spA F K) [] E0 (tCons (tOp (rIX K) (tVar 0) (tVar 2)) (tCons (tOp (rIX K) (tVar 1) (tVar 2)) tNil))) [2]) tNil)))
          { nx := tRet (tOp (rEQ K) (tVar 0) (tVar 1)) { nx := fun _ H' => Q .non H', rt := Q }, rt := Q } [some x, some y, none] H3
        else tNext { nx := tRet (tOp (rEQ K) (tVar 0) (tVar 1)) { nx := fun _ H' => Q .non H', rt := Q }, rt := Q } [some x, some y, none] H3 := by
      intro hsh e1 e2
      rw [e1, e2]
      show if false = true then _ else tNext _ _ _
      walk_at "rd"
      refine e_d hx3 hy3 hsh hsh ?_
      rw [eqv_same hsh]
      exact q H3 hS3
    refine x_truB ?_
    cases hx3 with
    | non => exact flat hF rfl rfl
    | bl b => exact flat hF rfl rfl
    | int i => exact flat hF rfl rfl
    | str z => exact flat hF rfl rfl
    | lst hs ha =>
      cases hy3 with
      | lst hs' ha' => exact iteT (seq _ _ _ _ _ hF.1 hF.2 (.inl hs) (.inl hs') ha ha' rfl rfl)
    | tup hs ha =>
      cases hy3 with
      | tup hs' ha' => exact iteT (seq _ _ _ _ _ hF.1 hF.2 (.inr hs) (.inr hs') ha ha' rfl rfl)
theorem ok__law_alike (Y : Fx K mg) : ∀ n : Nat, FnOk P w K mg base CX0 (n + 2) Y.a__law_alike Y.fd__law_alike ["_law_found", "_law_due"] (spA (Fine n) K)
  | 0 => alike_step Y (Nat.le_refl 1) (fun _ => False) ⟨fun vs H Q E h => by obtain ⟨x, y, d, rfl, _⟩ := h; rfl, fun A outer s H args us vs Q E hr he hb hv hs => by obtain ⟨x, y, d, rfl, _, _, z, _⟩ := hs; exact z.elim⟩
  | n + 1 => alike_step Y (by omega) (Fine n) (ok__law_alike Y n)
end
end My

set_option Elab.async false
set_option linter.all false
set_option maxRecDepth 100000
set_option maxHeartbeats 1000000
namespace My
open PySem PySem.Spec PyProof.Rows L2
local macro_rules | `(tactic| walk_at "len") => `(tactic| first | assumption | omega | decide | (simp only [List.length_append, List.length_take, List.length_drop, List.length_cons, List.length_nil, List.length_replicate]; omega))
local macro_rules | `(tactic| walk_at "side") => `(tactic| first | assumption | exact Nat.zero_le _ | decide | omega)
local macro_rules | `(tactic| walk_at "rd1") => `(tactic| first
  | with_reducible refine s_seq ?_
  | with_reducible refine x_gsub ?_
  | with_reducible refine s_asg ?_
  | ((with_reducible refine s_gn ?_); dsimp only [List.set])
  | ((with_reducible refine x_var (v := ?rdv) ?rdhv ?_); (case rdhv => rfl))
  | with_reducible refine x_c ?_
  | with_reducible refine x_op ?_
  | with_reducible refine x_cons ?_
  | with_reducible refine x_nil ?_
  | with_reducible refine x_cb ?_
  | with_reducible refine x_call ?_
  | with_reducible refine s_if ?_
  | with_reducible refine s_ret ?_
  | with_reducible refine s_retN ?_
  | with_reducible refine s_next ?_
  | with_reducible refine s_brk ?_
  | with_reducible refine s_cont ?_
  | with_reducible refine s_drop ?_
  | with_reducible refine s_par ?_
  | with_reducible refine s_par3 ?_
  | ((with_reducible refine s_p2 ?_); dsimp only [List.set])
  | ((with_reducible refine s_p3 ?_); dsimp only [List.set])
  | with_reducible refine f_r1 ?_
  | with_reducible refine f_r2 ?_
  | with_reducible refine f_l ?_
  | with_reducible refine f_t ?_
  | with_reducible refine f_s ?_
  | with_reducible refine c_r1 ?_
  | with_reducible refine c_r2 ?_
  | with_reducible refine c_l ?_
  | with_reducible refine c_t ?_
  | with_reducible refine c_s ?_
  | with_reducible refine x_tst ?_
  | with_reducible refine x_tru ?_
  | with_reducible refine x_truB ?_
  | with_reducible refine x_bl2 ?_
  | with_reducible refine x_int ?_
  | with_reducible refine x_str ?_
  | with_reducible refine x_not ?_
  | with_reducible refine x_and ?_
  | with_reducible refine x_or ?_
  | with_reducible refine x_andV ?_
  | with_reducible refine x_orV ?_
  | with_reducible refine x_notV ?_
  | with_reducible refine x_if ?_
  | with_reducible refine x_yes ?_
  | with_reducible refine x_un ?_
  | with_reducible refine x_tup ?_
  | with_reducible refine x_lst ?_
  | with_reducible refine x_callK ?_
  | with_reducible refine x_callK0 ?_
  | with_reducible refine x_bm ?_
  | with_reducible refine x_bm0 ?_
  | with_reducible refine x_tyS ?_
  | with_reducible refine x_sl ?_
  | with_reducible refine x_nopart ?_
  | with_reducible refine x_part ?_
  | with_reducible refine x_fmt0 ?_
  | with_reducible refine x_fmt ?_
  | with_reducible refine x_chain ?_
  | with_reducible refine a_ii ?_
  | ((with_reducible refine sl_to ?rda ?rdb ?_); (case rda => walk_at "len"); (case rdb => walk_at "len"))
  | ((with_reducible refine sl_from ?rda ?rdb ?_); (case rda => walk_at "len"); (case rdb => walk_at "len"))
  | ((with_reducible refine sl_mid ?rda ?rdb ?rdc ?_); (case rda => walk_at "len"); (case rdb => walk_at "len"); (case rdc => walk_at "len"))
  | ((with_reducible refine a_SS ?rda ?_); (case rda => walk_at "len"))
  | ((with_reducible refine ln_S ?rda ?_); (case rda => walk_at "len"))
  | with_reducible refine e_SS ?_
  | with_reducible refine ne_SS ?_
  | with_reducible refine s_ii ?_
  | ((with_reducible refine md_ii ?rdc ?_); (case rdc => first | decide | assumption | omega))
  | with_reducible refine n_i ?_
  | with_reducible refine e_ii ?_
  | with_reducible refine e_bb ?_
  | with_reducible refine ne_ii ?_
  | with_reducible refine ne_bb ?_
  | with_reducible refine lt_ii ?_
  | with_reducible refine lt_ss ?_
  | with_reducible refine le_ii ?_
  | with_reducible refine gt_ii ?_
  | with_reducible refine gt_ss ?_
  | with_reducible refine ge_ii ?_
  | with_reducible refine e_ss ?_
  | with_reducible refine ne_ss ?_
  | with_reducible refine is_N ?_
  | with_reducible refine is_T ?_
  | with_reducible refine is_B ?_
  | with_reducible refine isn_N ?_
  | with_reducible refine isn_T ?_
  | with_reducible refine isn_B ?_
  | with_reducible refine in_s ?_
  | with_reducible refine nin_s ?_
  | with_reducible refine i_i ?_
  | with_reducible refine i_b ?_
  | with_reducible refine ab_i ?_
  | with_reducible refine mx_ii ?_
  | with_reducible refine mn_ii ?_
  | with_reducible refine ty_N ?_
  | with_reducible refine ty_B ?_
  | with_reducible refine ty_I ?_
  | with_reducible refine ty_S ?_
  | with_reducible refine ma_s ?_
  | with_reducible refine mp_s ?_
  | with_reducible refine mdg_s ?_
  | with_reducible refine mf_s ?_
  | with_reducible refine iteT ?_
  | with_reducible refine iteF ?_
  | with_reducible refine iteNt ?_
  | with_reducible refine iteNf ?_
  | with_reducible refine iteTd (by decide) ?_
  | with_reducible refine iteFd (by decide) ?_
  | with_reducible refine iteNd (by decide) ?_
  | with_reducible refine iteNdF (by decide) ?_
  | ((with_reducible refine iteFd ?rdn ?_); (case rdn => (intro rdz; cases rdz; done)))
  | ((with_reducible refine iteNdF ?rdn ?_); (case rdn => (intro rdz; cases rdz; done))))
local macro_rules | `(tactic| walk_at "rd") => `(tactic| (repeat walk_at "rd1"))
section
variable {P : Program} {w : World} {K : PySem.W.Frag} {mg : Str → Option Value} {base : Heap}
/-! checks of arguments that are right -/
def sp_is_number (K : PySem.W.Frag) : Sp := fun vs H Q _ => ∃ i a b : Int, vs = [.int i, .int a, .int b] ∧ Q (.bl (decide (a ≤ i) && decide (i ≤ b))) H
theorem ok_is_number (Y : Fx K mg) : FnOk P w K mg base CX0 1 Y.a_is_number Y.fd_is_number ["value", "low", "high"] (sp_is_number K) := by
  refine Y.F_is_number.ok sc_is_number (fun vs H Q E h => ?_) (fun cdv A outer s H vs Q E hr h => ?_)
  · obtain ⟨i, a, b, rfl, _⟩ := h
    rfl
  · obtain ⟨i, a, b, rfl, q⟩ := h
    refine ⟨_, b_is_number Y hr, ?_⟩
    show t_is_number K _ [some (.int i), some (.int a), some (.int b)] H
    unfold t_is_number
    walk_at "rd"
    refine ite2' (fun e => ?_) (fun e => ?_)
    · walk_at "rd"
      rw [e, Bool.true_and] at q
      exact q
    · rw [e, Bool.false_and] at q
      exact q
def sp_is_block (K : PySem.W.Frag) : Sp := fun vs H Q _ => ∃ (l : List Nat) (n : Int), vs = [.str (S l), .int n] ∧ l.length ≤ 100000 ∧ Q (.bl (isT l && decide ((l.length : Int) ≤ n))) H
theorem ok_is_block (Y : Fx K mg) : FnOk P w K mg base CX0 2 Y.a_is_block Y.fd_is_block ["value", "signs"] (sp_is_block K) := by
  refine Y.F_is_block.ok sc_is_block (fun vs H Q E h => ?_) (fun cdv A outer s H vs Q E hr h => ?_)
  · obtain ⟨i, a, rfl, _⟩ := h
    rfl
  · obtain ⟨l, n, rfl, hl, q⟩ := h
    refine ⟨_, b_is_block Y (ok_is_text Y) hr, ?_⟩
    show t_is_block K _ _ [some (.str (S l)), some (.int n)] H
    unfold t_is_block
    walk_at "rd"
    refine ⟨l, rfl, ?_⟩
    walk_at "rd"
    refine ite2' (fun e => ?_) (fun e => ?_)
    · walk_at "rd"
      rw [e, Bool.true_and] at q
      exact q
    · rw [e, Bool.false_and] at q
      exact q
def sp_check_signs (K : PySem.W.Frag) : Sp := fun vs H Q _ => ∃ n : Int, vs = [.int n] ∧ 100 ≤ n ∧ n ≤ 1000 ∧ Q .non H
theorem ok_check_signs (Y : Fx K mg) : FnOk P w K mg base CX0 2 Y.a_check_signs Y.fd_check_signs ["signs"] (sp_check_signs K) := by
  refine Y.F_check_signs.ok sc_check_signs (fun vs H Q E h => ?_) (fun cdv A outer s H vs Q E hr h => ?_)
  · obtain ⟨n, rfl, _⟩ := h
    rfl
  · obtain ⟨n, rfl, h0, h1, q⟩ := h
    refine ⟨_, b_check_signs Y (ok_is_number Y) hr, ?_⟩
    show t_check_signs K _ _ [some (.int n)] H
    unfold t_check_signs
    walk_at "rd"
    refine ⟨n, _, _, rfl, ?_⟩
    rw [decide_eq_true h0, decide_eq_true h1]
    show ∃ k, TruV K (.bl true) H k ∧ _
    walk_at "rd"
    exact q
def sp_check_count (K : PySem.W.Frag) : Sp := fun vs H Q _ => ∃ n a b : Int, vs = [.int n, .int a, .int b] ∧ a ≤ n ∧ n ≤ b ∧ Q .non H
theorem ok_check_count (Y : Fx K mg) : FnOk P w K mg base CX0 2 Y.a_check_count Y.fd_check_count ["value", "low", "high"] (sp_check_count K) := by
  refine Y.F_check_count.ok sc_check_count (fun vs H Q E h => ?_) (fun cdv A outer s H vs Q E hr h => ?_)
  · obtain ⟨n, a, b, rfl, _⟩ := h
    rfl
  · obtain ⟨n, a, b, rfl, h0, h1, q⟩ := h
    refine ⟨_, b_check_count Y (ok_is_number Y) hr, ?_⟩
    show t_check_count K _ _ [some (.int n), some (.int a), some (.int b)] H
    unfold t_check_count
    walk_at "rd"
    refine ⟨n, _, _, rfl, ?_⟩
    rw [decide_eq_true h0, decide_eq_true h1]
    show ∃ k, TruV K (.bl true) H k ∧ _
    walk_at "rd"
    exact q
def sp_check_age (K : PySem.W.Frag) : Sp := fun vs H Q _ => ∃ n : Int, vs = [.int n] ∧ 0 ≤ n ∧ n ≤ 999999 ∧ Q .non H
theorem ok_check_age (Y : Fx K mg) : FnOk P w K mg base CX0 3 Y.a_check_age Y.fd_check_age ["age"] (sp_check_age K) := by
  refine Y.F_check_age.ok sc_check_age (fun vs H Q E h => ?_) (fun cdv A outer s H vs Q E hr h => ?_)
  · obtain ⟨n, rfl, _⟩ := h
    rfl
  · obtain ⟨n, rfl, h0, h1, q⟩ := h
    refine ⟨_, b_check_age Y (ok_check_count Y) hr, ?_⟩
    show t_check_age K _ _ [some (.int n)] H
    unfold t_check_age
    walk_at "rd"
    refine ⟨n, _, _, rfl, h0, h1, ?_⟩
    exact q
def sp_check_area (K : PySem.W.Frag) : Sp := fun vs H Q _ => ∃ f c m : Int, vs = [.int f, .int c, .int m] ∧ 1 ≤ c ∧ c ≤ 197 ∧ 0 ≤ f ∧ f ≤ m - c ∧ Q .non H
theorem ok_check_area (Y : Fx K mg) : FnOk P w K mg base CX0 2 Y.a_check_area Y.fd_check_area ["first", "count", "many"] (sp_check_area K) := by
  refine Y.F_check_area.ok sc_check_area (fun vs H Q E h => ?_) (fun cdv A outer s H vs Q E hr h => ?_)
  · obtain ⟨n, a, b, rfl, _⟩ := h
    rfl
  · obtain ⟨f, c, m, rfl, h0, h1, h2, h3, q⟩ := h
    refine ⟨_, b_check_area Y (ok_is_number Y) hr, ?_⟩
    show t_check_area K _ _ [some (.int f), some (.int c), some (.int m)] H
    unfold t_check_area
    walk_at "rd"
    refine ⟨c, _, _, rfl, ?_⟩
    rw [decide_eq_true h0, decide_eq_true h1]
    show ∃ k, TruV K (.bl true) H k ∧ _
    walk_at "rd"
    refine ⟨f, _, _, rfl, ?_⟩
    rw [decide_eq_true h2, decide_eq_true h3]
    show ∃ k, TruV K (.bl true) H k ∧ _
    walk_at "rd"
    exact q
/-- texts as values -/
def tv (ls : List (List Nat)) : List V := ls.map fun l => V.str (S l)
theorem tv_get {ls : List (List Nat)} {i : Nat} {x : V} (h : (tv ls)[i]? = some x) : ∃ l, ls[i]? = some l ∧ x = .str (S l) := by
  unfold tv at h
  rw [List.getElem?_map] at h
  cases e : ls[i]? with
  | none => rw [e] at h; cases h
  | some z =>
    rw [e] at h
    exact ⟨z, rfl, (Option.some.inj h).symm⟩
theorem tv_len (ls : List (List Nat)) : (tv ls).length = ls.length := List.length_map ..
theorem tv_app (a b : List (List Nat)) : tv (a ++ b) = tv a ++ tv b := List.map_append ..
def Blk (n : Nat) (ls : List (List Nat)) : Prop := ∀ l ∈ ls, isT l = true ∧ l.length ≤ n
def sp_check_image (K : PySem.W.Frag) : Sp := fun vs H Q _ => ∃ (p : Addr) (ls : List (List Nat)) (n : Nat), vs = [.ref p, .int n] ∧ SqT K H p (tv ls) ∧ 4 ≤ ls.length ∧ ls.length ≤ 200 ∧ n ≤ 1000 ∧ Blk n ls ∧ ∀ H', Same H H' → Q .non H'
theorem ok_check_image (Y : Fx K mg) : FnOk P w K mg base CX0 3 Y.a_check_image Y.fd_check_image ["image", "signs"] (sp_check_image K) := by
  refine Y.F_check_image.ok sc_check_image (fun vs H Q E h => ?_) (fun cdv A outer s H vs Q E hr h => ?_)
  · obtain ⟨p, ls, n, rfl, _⟩ := h
    rfl
  · obtain ⟨p, ls, n, rfl, hp, h4, h200, hn, hb, q⟩ := h
    refine ⟨_, b_check_image Y (ok_is_block Y) hr, ?_⟩
    show t_check_image K _ _ [some (.ref p), some (.int n), none] H
    unfold t_check_image
    walk_at "rd"
    refine ty_T hp ?_
    walk_at "rd"
    refine ln_t hp ?_
    rw [tv_len]
    walk_at "rd"
    rw [decide_eq_true (show (4 : Int) ≤ (ls.length : Int) by omega)]
    walk_at "rd"
    rw [decide_eq_true (show (ls.length : Int) ≤ 200 by omega)]
    walk_at "rd"
    refine lcT_mk hp (fun D i H' => Same H H' ∧ H' D = some (.lst ((List.replicate i true).map V.bl))) (fun D hD => ⟨same_upd hD, upd_same⟩) (fun D i H' hD _ hP => same_sqt hP.1 hp) (fun D i x H' hD hx hP => ?_) (fun D H' hD hP => ?_)
    · obtain ⟨hs, hd⟩ := hP
      obtain ⟨l, hl, rfl⟩ := tv_get hx
      obtain ⟨hT, hll⟩ := hb l (List.mem_of_getElem? hl)
      have hi := (List.getElem?_eq_some_iff.mp hl).1
      refine ⟨rfl, ?_⟩
      walk_at "rd"
      refine ⟨l, n, rfl, by omega, ?_⟩
      rw [hT, decide_eq_true (show (l.length : Int) ≤ (n : Int) by omega)]
      refine ⟨_, hd, ?_, same_mut hs hD, ?_⟩
      · rw [List.length_map, List.length_replicate]
        exact Nat.lt_of_le_of_lt (show i ≤ 200 by omega) (by decide)
      · rw [upd_same, List.replicate_succ', List.map_append]
        rfl
    · obtain ⟨hs, hd⟩ := hP
      walk_at "rd"
      refine al_b (lst_of hd) ?_
      rw [show (List.replicate (tv ls).length true).all id = true by simp]
      walk_at "rd"
      exact q H' hs
end
end My

set_option Elab.async false
set_option linter.all false
set_option maxRecDepth 100000
set_option maxHeartbeats 1000000
namespace My
open PySem PySem.Spec PyProof.Rows L2
local macro_rules | `(tactic| walk_at "len") => `(tactic| first | assumption | omega | decide | (simp only [List.length_append, List.length_take, List.length_drop, List.length_cons, List.length_nil, List.length_replicate]; omega))
local macro_rules | `(tactic| walk_at "side") => `(tactic| first | assumption | exact Nat.zero_le _ | decide | omega)
local macro_rules | `(tactic| walk_at "rd1") => `(tactic| first
  | with_reducible refine s_seq ?_
  | with_reducible refine x_gsub ?_
  | with_reducible refine s_asg ?_
  | ((with_reducible refine s_gn ?_); dsimp only [List.set])
  | ((with_reducible refine x_var (v := ?rdv) ?rdhv ?_); (case rdhv => rfl))
  | with_reducible refine x_c ?_
  | with_reducible refine x_op ?_
  | with_reducible refine x_cons ?_
  | with_reducible refine x_nil ?_
  | with_reducible refine x_cb ?_
  | with_reducible refine x_call ?_
  | with_reducible refine s_if ?_
  | with_reducible refine s_ret ?_
  | with_reducible refine s_retN ?_
  | with_reducible refine s_next ?_
  | with_reducible refine s_brk ?_
  | with_reducible refine s_cont ?_
  | with_reducible refine s_drop ?_
  | with_reducible refine s_par ?_
  | with_reducible refine s_par3 ?_
  | ((with_reducible refine s_p2 ?_); dsimp only [List.set])
  | ((with_reducible refine s_p3 ?_); dsimp only [List.set])
  | with_reducible refine f_r1 ?_
  | with_reducible refine f_r2 ?_
  | with_reducible refine f_l ?_
  | with_reducible refine f_t ?_
  | with_reducible refine f_s ?_
  | with_reducible refine c_r1 ?_
  | with_reducible refine c_r2 ?_
  | with_reducible refine c_l ?_
  | with_reducible refine c_t ?_
  | with_reducible refine c_s ?_
  | with_reducible refine x_tst ?_
  | with_reducible refine x_tru ?_
  | with_reducible refine x_truB ?_
  | with_reducible refine x_bl2 ?_
  | with_reducible refine x_int ?_
  | with_reducible refine x_str ?_
  | with_reducible refine x_not ?_
  | with_reducible refine x_and ?_
  | with_reducible refine x_or ?_
  | with_reducible refine x_andV ?_
  | with_reducible refine x_orV ?_
  | with_reducible refine x_notV ?_
  | with_reducible refine x_if ?_
  | with_reducible refine x_yes ?_
  | with_reducible refine x_un ?_
  | with_reducible refine x_tup ?_
  | with_reducible refine x_lst ?_
  | with_reducible refine x_callK ?_
  | with_reducible refine x_callK0 ?_
  | with_reducible refine x_bm ?_
  | with_reducible refine x_bm0 ?_
  | with_reducible refine x_tyS ?_
  | with_reducible refine x_sl ?_
  | with_reducible refine x_nopart ?_
  | with_reducible refine x_part ?_
  | with_reducible refine x_fmt0 ?_
  | with_reducible refine x_gc ?_
  | with_reducible refine x_gz ?_
  | with_reducible refine x_ckw ?_
  | with_reducible refine x_fmt ?_
  | with_reducible refine x_chain ?_
  | with_reducible refine a_ii ?_
  | ((with_reducible refine sl_to ?rda ?rdb ?_); (case rda => walk_at "len"); (case rdb => walk_at "len"))
  | ((with_reducible refine sl_from ?rda ?rdb ?_); (case rda => walk_at "len"); (case rdb => walk_at "len"))
  | ((with_reducible refine sl_mid ?rda ?rdb ?rdc ?_); (case rda => walk_at "len"); (case rdb => walk_at "len"); (case rdc => walk_at "len"))
  | ((with_reducible refine a_SS ?rda ?_); (case rda => walk_at "len"))
  | ((with_reducible refine ln_S ?rda ?_); (case rda => walk_at "len"))
  | with_reducible refine e_SS ?_
  | with_reducible refine ne_SS ?_
  | with_reducible refine s_ii ?_
  | ((with_reducible refine md_ii ?rdc ?_); (case rdc => first | decide | assumption | omega))
  | with_reducible refine n_i ?_
  | with_reducible refine e_ii ?_
  | with_reducible refine e_bb ?_
  | with_reducible refine ne_ii ?_
  | with_reducible refine ne_bb ?_
  | with_reducible refine lt_ii ?_
  | with_reducible refine lt_ss ?_
  | with_reducible refine le_ii ?_
  | with_reducible refine gt_ii ?_
  | with_reducible refine gt_ss ?_
  | with_reducible refine ge_ii ?_
  | with_reducible refine e_ss ?_
  | with_reducible refine ne_ss ?_
  | with_reducible refine is_N ?_
  | with_reducible refine is_T ?_
  | with_reducible refine is_B ?_
  | with_reducible refine isn_N ?_
  | with_reducible refine isn_T ?_
  | with_reducible refine isn_B ?_
  | with_reducible refine in_s ?_
  | with_reducible refine nin_s ?_
  | with_reducible refine i_i ?_
  | with_reducible refine i_b ?_
  | with_reducible refine ab_i ?_
  | with_reducible refine mx_ii ?_
  | with_reducible refine mn_ii ?_
  | with_reducible refine ty_N ?_
  | with_reducible refine ty_B ?_
  | with_reducible refine ty_I ?_
  | with_reducible refine ty_S ?_
  | with_reducible refine ma_s ?_
  | with_reducible refine mp_s ?_
  | with_reducible refine mdg_s ?_
  | with_reducible refine mf_s ?_
  | with_reducible refine iteT ?_
  | with_reducible refine iteF ?_
  | with_reducible refine iteNt ?_
  | with_reducible refine iteNf ?_
  | with_reducible refine iteTd (by decide) ?_
  | with_reducible refine iteFd (by decide) ?_
  | with_reducible refine iteNd (by decide) ?_
  | with_reducible refine iteNdF (by decide) ?_
  | ((with_reducible refine iteFd ?rdn ?_); (case rdn => (intro rdz; cases rdz; done)))
  | ((with_reducible refine iteNdF ?rdn ?_); (case rdn => (intro rdz; cases rdz; done))))
local macro_rules | `(tactic| walk_at "rd") => `(tactic| (repeat walk_at "rd1"))
section
variable {P : Program} {w : World} {K : PySem.W.Frag} {mg : Str → Option Value} {base : Heap}
def PcV (age : Nat) (H : Hp) (v : V) : Option Pc → Prop
  | none => v = .non
  | some (n, w, m, p) => ∃ t, v = .ref t ∧ H t = some (.tup [.int age, .int n, .int w, .bl m, .str (S p)])
theorem PcV.mono {age : Nat} {H H' : Hp} {v : V} {o : Option Pc} (e : Same H H') (h : PcV age H v o) : PcV age H' v o := by
  cases o with
  | none => exact h
  | some p =>
    obtain ⟨t, a, b⟩ := h
    exact ⟨t, a, e _ _ b⟩
theorem PcV.mut {age : Nat} {H : Hp} {v : V} {o : Option Pc} {D : Addr} {xs : List V} {u : HO} (hD : H D = some (.lst xs)) (h : PcV age H v o) : PcV age (upd H D u) v o := by
  cases o with
  | none => exact h
  | some p =>
    obtain ⟨t, a, b⟩ := h
    refine ⟨t, a, ?_⟩
    rw [upd_ne]
    · exact b
    · rintro rfl
      rw [hD] at b
      cases b
/-! piece_of_age -/
def sp_piece_of_age (K : PySem.W.Frag) : Sp := fun vs H Q _ => ∃ (l : List Nat) (age : Nat), vs = [.str (S l), .int age] ∧ isT l = true ∧ l.length ≤ 100000 ∧ ∀ v H', Same H H' → PcV age H' v (ofAge age l) → Q v H'
theorem ok_piece_of_age (Y : Fx K mg) : FnOk P w K mg base CX0 3 Y.a_piece_of_age Y.fd_piece_of_age ["block", "age"] (sp_piece_of_age K) := by
  refine Y.F_piece_of_age.ok sc_piece_of_age (fun vs H Q E h => ?_) (fun cdv A outer s H vs Q E hr h => ?_)
  · obtain ⟨l, a, rfl, _⟩ := h
    rfl
  · obtain ⟨l, age, rfl, hT, hl, q⟩ := h
    refine ⟨_, b_piece_of_age Y (ok_piece_told Y) hr, ?_⟩
    show t_piece_of_age K _ _ [some (.str (S l)), some (.int age), none] H
    unfold t_piece_of_age
    walk_at "rd"
    refine ⟨l, rfl, hT, hl, fun v H1 hS hv => ?_⟩
    walk_at "rd"
    unfold ofAge at q
    generalize rdP l = o at hv q
    cases o with
    | none =>
      cases (show v = .non from hv)
      rw [decide_eq_true rfl]
      walk_at "rd"
      exact q _ _ hS rfl
    | some x =>
      obtain ⟨a, n, w, m, p⟩ := x
      obtain ⟨t, rfl, ht⟩ := hv
      walk_at "rd"
      refine ix_T (tup_of ht) (by rfl) ?_
      walk_at "rd"
      refine ite2' (fun e => ?_) (fun e => ?_)
      · have e1 : a = age := by have := of_decide_eq_true e; omega
        subst e1
        walk_at "rd"
        refine q _ _ hS ?_
        show PcV a H1 _ (if a = a then some (n, w, m, p) else none)
        rw [if_pos rfl]
        exact ⟨t, rfl, ht⟩
      · have e1 : ¬ a = age := by have := of_decide_eq_false e; omega
        walk_at "rd"
        refine q _ _ hS ?_
        show PcV age H1 _ (if a = age then some (n, w, m, p) else none)
        rw [if_neg e1]
        rfl
/-! told_record -/
def PsV (age : Nat) (H : Hp) (vs : List V) (ps : List (Option Pc)) : Prop := vs.length = ps.length ∧ ∀ (i : Nat) (o : Option Pc), ps[i]? = some o → ∃ v, vs[i]? = some v ∧ PcV age H v o
theorem PsV.mono {age : Nat} {H H' : Hp} {vs : List V} {ps : List (Option Pc)} (e : Same H H') (h : PsV age H vs ps) : PsV age H' vs ps := ⟨h.1, fun i o hi => by
  obtain ⟨v, a, b⟩ := h.2 i o hi
  exact ⟨v, a, b.mono e⟩⟩
theorem PsV.mut {age : Nat} {H : Hp} {vs : List V} {ps : List (Option Pc)} {D : Addr} {xs : List V} {u : HO} (hD : H D = some (.lst xs)) (h : PsV age H vs ps) : PsV age (upd H D u) vs ps := ⟨h.1, fun i o hi => by
  obtain ⟨v, a, b⟩ := h.2 i o hi
  exact ⟨v, a, b.mut hD⟩⟩
theorem PsV.snoc {age : Nat} {H : Hp} {vs : List V} {ps : List (Option Pc)} {v : V} {o : Option Pc} (h : PsV age H vs ps) (hv : PcV age H v o) : PsV age H (vs ++ [v]) (ps ++ [o]) := by
  refine ⟨by rw [List.length_append, List.length_append, h.1]; rfl, fun i o' hi => ?_⟩
  by_cases hlt : i < ps.length
  · rw [List.getElem?_append_left hlt] at hi
    obtain ⟨v', a, b⟩ := h.2 i o' hi
    exact ⟨v', by rw [List.getElem?_append_left (by rw [h.1]; exact hlt)]; exact a, b⟩
  · rw [List.getElem?_append_right (by omega)] at hi
    have hi2 : i - ps.length < 1 := (List.getElem?_eq_some_iff.mp hi).1
    have hi3 : i = ps.length := by omega
    subst hi3
    rw [Nat.sub_self] at hi
    cases hi
    exact ⟨v, by rw [List.getElem?_append_right (by rw [h.1]; exact Nat.le_refl _), h.1, Nat.sub_self]; rfl, hv⟩
def RecV (H : Hp) (v : V) : Option (List Nat × Nat × Nat) → Prop
  | none => v = .non
  | some (t, nx, w) => ∃ a, v = .ref a ∧ H a = some (.tup [.str (S t), .int nx, .int w])
def Sm (ps : List (Option Pc)) : Prop := ∀ p ∈ ps, ∀ x, p = some x → x.2.2.2.length ≤ 1000
def woV : Option Nat → V
  | none => .non
  | some w => .int w
theorem tv_eq (ls : List (List Nat)) : tv ls = (ls.map S).map V.str := by
  unfold tv
  rw [List.map_map]
  rfl
theorem flat_snoc (acc : List (List Nat)) (p : List Nat) : (acc ++ [p]).flatten.length = acc.flatten.length + p.length := by
  rw [List.flatten_append, List.length_append]
  simp
def sp_told_record (K : PySem.W.Frag) : Sp := fun vs H Q _ => ∃ (p : Addr) (us : List V) (ps : List (Option Pc)) (age sg st ls : Nat), vs = [.ref p, .int sg, .int st, .int ls] ∧ SqL K H p us ∧ PsV age H us ps ∧ st ≤ ps.length ∧ ps.length ≤ 200 ∧ Sm ps ∧ 19 ≤ sg ∧ ∀ v H', Same H H' → RecV H' v (recd sg ls (ps.drop st) st [] none) → Q v H'
theorem ok_told_record (Y : Fx K mg) : FnOk P w K mg base CX0 1 Y.a_told_record Y.fd_told_record ["pieces", "signs", "start", "least"] (sp_told_record K) := by
  refine Y.F_told_record.ok sc_told_record (fun vs H Q E h => ?_) (fun cdv A outer s H vs Q E hr h => ?_)
  · obtain ⟨p, us, ps, age, sg, st, ls, rfl, _⟩ := h
    rfl
  · obtain ⟨p, us, ps, age, sg, st, ls, rfl, hp, hps, hst, hpl, hsm, h19, q⟩ := h
    refine ⟨_, b_told_record Y hr, ?_⟩
    show t_told_record K _ [some (.ref p), some (.int sg), some (.int st), some (.int ls), none, none, none, none, none, none, none] H
    unfold t_told_record
    walk_at "rd"
    refine ⟨Nat.zero_le _, fun P hP => ?_⟩
    walk_at "rd"
    have hp0 : SqL K (upd H P (.lst [])) p us := (same_upd hP).seq hp
    refine ln_l hp0 ?_
    rw [hps.1]
    walk_at "rd"
    refine for2_mk (lo := (st : Int)) (j := (ps.length : Int)) ⟨by omega, by omega, by omega, by omega⟩ (fun i σ H' => ∃ (acc : List (List Nat)) (wo : Option Nat) (y6 y7 y8 y9 y10 : Option V), σ = [some (.ref p), some (.int sg), some (.int st), some (.int ls), some (.ref P), some (woV wo), y6, y7, y8, y9, y10] ∧ Same H H' ∧ H' P = some (.lst (tv acc)) ∧ recd sg ls (ps.drop st) st [] none = recd sg ls (ps.drop (st + i)) (st + i) acc wo ∧ acc.length ≤ i ∧ acc.flatten.length ≤ 1000 * i)
      ⟨[], none, none, none, none, none, none, rfl, same_upd hP, upd_same, rfl, Nat.le_refl _, Nat.le_refl _⟩ (fun i σ H1 hi hV => ?_) (fun σ H1 hV => ?_)
    · obtain ⟨acc, wo, y6, y7, y8, y9, y10, rfl, hS, hH, hR, hal, hfl⟩ := hV
      have hi' : st + i < ps.length := by omega
      obtain ⟨v, hv, hpc⟩ := hps.2 (st + i) _ (List.getElem?_eq_getElem hi')
      rw [List.drop_eq_getElem_cons hi'] at hR
      have hms := hsm _ (List.getElem_mem hi')
      generalize ps[st + i] = o at hpc hR hms
      have hpc1 := hpc.mono hS
      walk_at "rd"
      rw [show (st : Int) + (i : Int) = ((st + i : Nat) : Int) by omega]
      refine ix_L (hS.seq hp) (atI_nat hv) ?_
      walk_at "rd"
      cases o with
      | none =>
        cases (show v = .non from hpc1)
        rw [decide_eq_true rfl]
        walk_at "rd"
        rw [hR] at q
        exact q _ _ hS rfl
      | some x =>
        obtain ⟨n, w, m, l⟩ := x
        obtain ⟨t, rfl, ht⟩ := hpc1
        have hll : l.length ≤ 1000 := hms _ rfl
        rw [decide_eq_false (show ¬ V.ref t = .non from fun z => by cases z)]
        walk_at "rd"
        refine ix_L (hS.seq hp) (atI_nat hv) ?_
        walk_at "rd"
        refine sl_T (tup_of ht) fun t2 H2 hS2 ht2 => ?_
        rw [show cutV [V.int age, V.int n, V.int w, V.bl m, V.str (S l)] (some 1) none = [V.int n, V.int w, V.bl m, V.str (S l)] from rfl] at ht2
        refine gt_T ht2 rfl ?_
        walk_at "rd"
        have hH2 := hS2 _ _ hH
        have hS3 := hS.trans hS2
        refine s_cut (fun σ' H' => σ' = [some (.ref p), some (.int sg), some (.int st), some (.int ls), some (.ref P), some (.int (wo.getD w : Nat)), some (.int (st + i : Nat)), some (.int n), some (.int w), some (.bl m), some (.str (S l))] ∧ H' = H2) ?_ ?_
        · walk_at "rd"
          cases wo with
          | none =>
            rw [show woV none = .non from rfl, decide_eq_true rfl]
            walk_at "rd"
            exact ⟨rfl, rfl⟩
          | some z =>
            rw [show woV (some z) = .int z from rfl, decide_eq_false (show ¬ V.int (z : Int) = .non from fun z => by cases z)]
            walk_at "rd"
            exact ⟨rfl, rfl⟩
        · rintro σ' H' ⟨rfl, rfl⟩
          rw [recd] at hR
          generalize wo.getD w = wr at hR
          walk_at "rd"
          have stop : recd sg ls (ps.drop st) st [] none = none → Q .non H' := fun e => by
            rw [e] at q
            exact q _ _ hS3 rfl
          refine ite2' (fun e => ?_) (fun e => ?_)
          · rw [Bool.not_eq_true'] at e
            have := of_decide_eq_false e
            walk_at "rd"
            exact stop (hR.trans (if_pos (.inl (by omega))))
          · rw [Bool.not_eq_false'] at e
            have e1 : n = st + i := by have := of_decide_eq_true e; omega
            walk_at "rd"
            refine ite2' (fun e => ?_) (fun e => ?_)
            · rw [Bool.not_eq_true'] at e
              have := of_decide_eq_false e
              walk_at "rd"
              exact stop (hR.trans (if_pos (.inr (.inl (by omega)))))
            · rw [Bool.not_eq_false'] at e
              have e2 : w = wr := by have := of_decide_eq_true e; omega
              walk_at "rd"
              refine ite2' (fun e => ?_) (fun e => ?_)
              · have := of_decide_eq_true e
                walk_at "rd"
                exact stop (hR.trans (if_pos (.inr (.inr (by omega)))))
              · have e3 : ¬ wr < ls := by have := of_decide_eq_false e; omega
                rw [if_neg (fun z => z.elim (fun z => z e1) fun z => z.elim (fun z => z e2) e3)] at hR
                walk_at "rd"
                refine x_tyL (lst_of hH2) ?_
                walk_at "rd"
                have hP' : H P = none := hP
                refine ap_L hH2 (by rw [tv_len]; omega) ?_
                rw [show tv acc ++ [V.str (S l)] = tv (acc ++ [l]) by rw [tv_app]; rfl]
                have hS4 := same_mut (o := .lst (tv (acc ++ [l]))) hS3 hP'
                have hH4 : upd H' P (.lst (tv (acc ++ [l]))) P = some (.lst (tv (acc ++ [l]))) := upd_same
                have hfs := flat_snoc acc l
                have hfl2 : (acc ++ [l]).flatten.length ≤ 1000 * (i + 1) := by omega
                have hal2 : (acc ++ [l]).length ≤ i + 1 := by rw [List.length_append]; exact Nat.succ_le_succ hal
                show tSeq _ _ _ _ (upd H' P (.lst (tv (acc ++ [l]))))
                generalize upd H' P (.lst (tv (acc ++ [l]))) = H4 at hS4 hH4
                walk_at "rd"
                cases m with
                | false =>
                  rw [if_pos rfl] at hR
                  walk_at "rd"
                  refine jn_0 (lst_of (by rw [← tv_eq]; exact hH4)) (by omega) ?_
                  walk_at "rd"
                  refine ⟨by show 3 ≤ sizeLine; decide, fun r hr => ?_⟩
                  rw [hR] at q
                  refine q _ _ (same_new hS4 hr) ⟨r, rfl, ?_⟩
                  rw [upd_same]
                  rfl
                | true =>
                  rw [if_neg (show ¬ true = false by decide)] at hR
                  walk_at "rd"
                  have stop4 : recd sg ls (ps.drop st) st [] none = none → Q .non H4 := fun e => by
                    rw [e] at q
                    exact q _ _ hS4 rfl
                  refine ite2' (fun e => ?_) (fun e => ?_)
                  · rw [Bool.not_eq_true'] at e
                    have := of_decide_eq_false e
                    walk_at "rd"
                    exact stop4 (hR.trans (if_pos (by omega)))
                  · rw [Bool.not_eq_false'] at e
                    have e4 : l.length = sg - 19 := by have := of_decide_eq_true e; omega
                    rw [if_neg (fun z => z e4)] at hR
                    walk_at "rd"
                    exact ⟨acc ++ [l], some wr, _, _, _, _, _, rfl, hS4, hH4, hR, hal2, hfl2⟩
    · obtain ⟨acc, wo, y6, y7, y8, y9, y10, rfl, hS, hH, hR, hal, hfl⟩ := hV
      have e0 : ps.drop (st + ((ps.length : Int) - (st : Int)).toNat) = [] := List.drop_eq_nil_of_le (by omega)
      rw [e0] at hR
      have hR' : recd sg ls (ps.drop st) st [] none = none := hR
      walk_at "rd"
      rw [hR'] at q
      exact q _ _ hS rfl
end
end My

set_option Elab.async false
set_option linter.all false
set_option maxRecDepth 100000
set_option maxHeartbeats 1000000
namespace My
open PySem PySem.Spec PyProof.Rows L2
local macro_rules | `(tactic| walk_at "len") => `(tactic| first | assumption | omega | decide | (simp only [List.length_append, List.length_take, List.length_drop, List.length_cons, List.length_nil, List.length_replicate]; omega))
local macro_rules | `(tactic| walk_at "side") => `(tactic| first | assumption | exact Nat.zero_le _ | decide | omega)
local macro_rules | `(tactic| walk_at "rd1") => `(tactic| first
  | with_reducible refine s_seq ?_
  | with_reducible refine x_gsub ?_
  | with_reducible refine s_asg ?_
  | ((with_reducible refine s_gn ?_); dsimp only [List.set])
  | ((with_reducible refine x_var (v := ?rdv) ?rdhv ?_); (case rdhv => rfl))
  | with_reducible refine x_c ?_
  | with_reducible refine x_op ?_
  | with_reducible refine x_cons ?_
  | with_reducible refine x_nil ?_
  | with_reducible refine x_cb ?_
  | with_reducible refine x_call ?_
  | with_reducible refine s_if ?_
  | with_reducible refine s_ret ?_
  | with_reducible refine s_retN ?_
  | with_reducible refine s_next ?_
  | with_reducible refine s_brk ?_
  | with_reducible refine s_cont ?_
  | with_reducible refine s_drop ?_
  | with_reducible refine s_par ?_
  | with_reducible refine s_par3 ?_
  | ((with_reducible refine s_p2 ?_); dsimp only [List.set])
  | ((with_reducible refine s_p3 ?_); dsimp only [List.set])
  | with_reducible refine f_r1 ?_
  | with_reducible refine f_r2 ?_
  | with_reducible refine f_l ?_
  | with_reducible refine f_t ?_
  | with_reducible refine f_s ?_
  | with_reducible refine c_r1 ?_
  | with_reducible refine c_r2 ?_
  | with_reducible refine c_l ?_
  | with_reducible refine c_t ?_
  | with_reducible refine c_s ?_
  | with_reducible refine x_tst ?_
  | with_reducible refine x_tru ?_
  | with_reducible refine x_truB ?_
  | with_reducible refine x_bl2 ?_
  | with_reducible refine x_int ?_
  | with_reducible refine x_str ?_
  | with_reducible refine x_not ?_
  | with_reducible refine x_and ?_
  | with_reducible refine x_or ?_
  | with_reducible refine x_andV ?_
  | with_reducible refine x_orV ?_
  | with_reducible refine x_notV ?_
  | with_reducible refine x_if ?_
  | with_reducible refine x_yes ?_
  | with_reducible refine x_un ?_
  | with_reducible refine x_tup ?_
  | with_reducible refine x_lst ?_
  | with_reducible refine x_callK ?_
  | with_reducible refine x_callK0 ?_
  | with_reducible refine x_bm ?_
  | with_reducible refine x_bm0 ?_
  | with_reducible refine x_tyS ?_
  | with_reducible refine x_sl ?_
  | with_reducible refine x_nopart ?_
  | with_reducible refine x_part ?_
  | with_reducible refine x_fmt0 ?_
  | with_reducible refine x_gc ?_
  | with_reducible refine x_gz ?_
  | with_reducible refine x_ckw ?_
  | with_reducible refine x_fmt ?_
  | with_reducible refine x_chain ?_
  | with_reducible refine a_ii ?_
  | ((with_reducible refine sl_to ?rda ?rdb ?_); (case rda => walk_at "len"); (case rdb => walk_at "len"))
  | ((with_reducible refine sl_from ?rda ?rdb ?_); (case rda => walk_at "len"); (case rdb => walk_at "len"))
  | ((with_reducible refine sl_mid ?rda ?rdb ?rdc ?_); (case rda => walk_at "len"); (case rdb => walk_at "len"); (case rdc => walk_at "len"))
  | ((with_reducible refine a_SS ?rda ?_); (case rda => walk_at "len"))
  | ((with_reducible refine ln_S ?rda ?_); (case rda => walk_at "len"))
  | with_reducible refine e_SS ?_
  | with_reducible refine ne_SS ?_
  | with_reducible refine s_ii ?_
  | ((with_reducible refine md_ii ?rdc ?_); (case rdc => first | decide | assumption | omega))
  | with_reducible refine n_i ?_
  | with_reducible refine e_ii ?_
  | with_reducible refine e_bb ?_
  | with_reducible refine ne_ii ?_
  | with_reducible refine ne_bb ?_
  | with_reducible refine lt_ii ?_
  | with_reducible refine lt_ss ?_
  | with_reducible refine le_ii ?_
  | with_reducible refine gt_ii ?_
  | with_reducible refine gt_ss ?_
  | with_reducible refine ge_ii ?_
  | with_reducible refine e_ss ?_
  | with_reducible refine ne_ss ?_
  | with_reducible refine is_N ?_
  | with_reducible refine is_T ?_
  | with_reducible refine is_B ?_
  | with_reducible refine isn_N ?_
  | with_reducible refine isn_T ?_
  | with_reducible refine isn_B ?_
  | with_reducible refine in_s ?_
  | with_reducible refine nin_s ?_
  | with_reducible refine i_i ?_
  | with_reducible refine i_b ?_
  | with_reducible refine ab_i ?_
  | with_reducible refine mx_ii ?_
  | with_reducible refine mn_ii ?_
  | with_reducible refine ty_N ?_
  | with_reducible refine ty_B ?_
  | with_reducible refine ty_I ?_
  | with_reducible refine ty_S ?_
  | with_reducible refine ma_s ?_
  | with_reducible refine mp_s ?_
  | with_reducible refine mdg_s ?_
  | with_reducible refine mf_s ?_
  | with_reducible refine iteT ?_
  | with_reducible refine iteF ?_
  | with_reducible refine iteNt ?_
  | with_reducible refine iteNf ?_
  | with_reducible refine iteTd (by decide) ?_
  | with_reducible refine iteFd (by decide) ?_
  | with_reducible refine iteNd (by decide) ?_
  | with_reducible refine iteNdF (by decide) ?_
  | ((with_reducible refine iteFd ?rdn ?_); (case rdn => (intro rdz; cases rdz; done)))
  | ((with_reducible refine iteNdF ?rdn ?_); (case rdn => (intro rdz; cases rdz; done))))
local macro_rules | `(tactic| walk_at "rd") => `(tactic| (repeat walk_at "rd1"))
section
variable {P : Program} {w : World} {K : PySem.W.Frag} {mg : Str → Option Value} {base : Heap}
theorem take_snoc {α : Type} {xs : List α} {i : Nat} {x : α} (h : xs[i]? = some x) : xs.take (i + 1) = xs.take i ++ [x] := by
  rw [List.take_add_one, h]
  rfl
theorem wsOf_snoc (ps : List (Option Pc)) (o : Option Pc) : wsOf (ps ++ [o]) = wsOf ps ++ (match o with | none => [] | some p => [(p.2.1 : Int)]) := by
  unfold wsOf
  rw [List.filterMap_append]
  cases o <;> rfl
theorem dp_strs (H : Hp) : ∀ ls : List (List Nat), DpAll K H (tv ls) (ls.map fun l => PyData.str (S l))
  | [] => .nil
  | l :: ls => .cons (.str _) (dp_strs H ls)
theorem sm_of {age : Nat} {ls : List (List Nat)} (h : Blk 1000 ls) : Sm (ls.map (ofAge age)) := by
  intro o ho x hx
  subst hx
  obtain ⟨l, hl, e⟩ := List.mem_map.mp ho
  obtain ⟨_, hll⟩ := h l hl
  unfold ofAge at e
  cases hr : rdP l with
  | none => rw [hr] at e; cases e
  | some y =>
    obtain ⟨a, n, w, m, p⟩ := y
    rw [hr] at e
    have e' : (if a = age then some (n, w, m, p) else none) = some x := e
    split at e'
    · cases e'
      unfold rdP at hr
      split at hr
      · split at hr
        · cases hr
          show (l.drop 19).length ≤ 1000
          rw [List.length_drop]
          omega
        · cases hr
      · cases hr
    · cases e'
/-! told_run -/
def sp_told_run (K : PySem.W.Frag) : Sp := fun vs H Q _ => ∃ (p : Addr) (ls : List (List Nat)) (sg age : Nat), vs = [.ref p, .int sg, .int age] ∧ SqT K H p (tv ls) ∧ ls.length ≤ 200 ∧ Blk 1000 ls ∧ 19 ≤ sg ∧ ∀ v H', Same H H' → Dp K H' v (toldD sg (ls.map (ofAge age))) → Q v H'
theorem ok_told_run (Y : Fx K mg) : FnOk P w K mg base CX0 4 Y.a_told_run Y.fd_told_run ["blocks", "signs", "age"] (sp_told_run K) := by
  refine Y.F_told_run.ok sc_told_run (fun vs H Q E h => ?_) (fun cdv A outer s H vs Q E hr h => ?_)
  · obtain ⟨p, ls, sg, age, rfl, _⟩ := h
    rfl
  · obtain ⟨p, ls, sg, age, rfl, hp, hll, hb, h19, q⟩ := h
    refine ⟨_, b_told_run Y (ok_piece_of_age Y) (ok_told_record Y) hr, ?_⟩
    show t_told_run K _ _ _ [some (.ref p), some (.int sg), some (.int age), none, none, none, none, none, none, none, none, none] H
    unfold t_told_run
    have hsm := sm_of (age := age) hb
    walk_at "rd"
    refine lcT_mk hp (fun D i H' => Same H H' ∧ ∃ us, H' D = some (.lst us) ∧ PsV age H' us ((ls.take i).map (ofAge age))) (fun D hD => ⟨same_upd hD, [], upd_same, rfl, fun i o h => by cases h⟩) (fun D i H' hD _ hP => same_sqt hP.1 hp) (fun D i x H' hD hx hP => ?_) (fun D H1 hD hP => ?_)
    · obtain ⟨hS, us, hu, hps⟩ := hP
      obtain ⟨l, hl, rfl⟩ := tv_get hx
      obtain ⟨hT, hlen⟩ := hb l (List.mem_of_getElem? hl)
      have hi := (List.getElem?_eq_some_iff.mp hl).1
      refine ⟨rfl, ?_⟩
      walk_at "rd"
      refine ⟨l, age, rfl, hT, by omega, fun v H2 hS2 hv => ?_⟩
      have hu2 := hS2 _ _ hu
      have hlu : us.length ≤ 200 := by
        rw [hps.1, List.length_map, List.length_take]
        omega
      refine ⟨us, hu2, Nat.lt_of_le_of_lt hlu (by decide), same_mut (hS.trans hS2) hD, us ++ [v], upd_same, ?_⟩
      rw [take_snoc hl, List.map_append]
      exact ((hps.mono hS2).mut hu2).snoc (hv.mut hu2)
    · obtain ⟨hS, us, hu, hps⟩ := hP
      rw [tv_len, List.take_of_length_le (Nat.le_refl _)] at hps
      have hpn : (ls.map (ofAge age)).length ≤ 200 := by rw [List.length_map]; exact hll
      generalize ls.map (ofAge age) = ps at hsm hps hpn q
      walk_at "rd"
      refine ⟨Nat.zero_le _, fun R hR => ?_⟩
      have hSR := same_upd hR (o := .lst [])
      walk_at "rd"
      refine ⟨D, us, ps, age, sg, 0, 0, rfl, lst_of (hSR _ _ hu), hps.mono hSR, Nat.zero_le _, hpn, hsm, h19, fun v0 H2 hS2 hv0 => ?_⟩
      walk_at "rd"
      refine w_while (fun k σ H' => ∃ (rs : List (List Nat)) (nm wr : Nat) (v : V) (y4 y9 y10 y11 : Option V), σ = [some (.ref p), some (.int sg), some (.int age), some (.ref D), y4, some (.ref R), some (.int nm), some (.int wr), some v, y9, y10, y11] ∧ Same H1 H' ∧ H' R = some (.lst (tv rs)) ∧ RecV H' v (recd sg wr (ps.drop nm) nm [] none) ∧ nm ≤ ps.length ∧ rs.length ≤ nm ∧ k = ps.length - nm ∧ flat sg ps 0 [] 0 0 0 [] = flat sg (ps.drop nm) nm [] nm wr wr rs) _
        ⟨[], 0, 0, v0, _, _, _, _, rfl, hSR.trans hS2, hS2 _ _ upd_same, hv0, Nat.zero_le _, Nat.le_refl _, rfl, rfl⟩ (fun k σ H' hW => ?_)
      obtain ⟨rs, nm, wr, v, y4, y9, y10, y11, rfl, hSH, hRs, hv, hnm, hrn, rfl, hfl⟩ := hW
      rw [flat_rec sg nm wr rs (ps.drop nm) nm [] none wr (fun _ => rfl) (fun z => absurd rfl z)] at hfl
      walk_at "rd"
      cases hrec : recd sg wr (ps.drop nm) nm [] none with
      | none =>
        rw [hrec] at hv hfl
        cases (show v = .non from hv)
        rw [decide_eq_true rfl]
        have hfl' : flat sg ps 0 [] 0 0 0 [] = (rs, nm) := hfl
        walk_at "rd"
        refine lcL_mk (lst_of (hSH _ _ hu)) (fun E i H2 => Same H' H2 ∧ H2 E = some (.lst ((wsOf (ps.take i)).map V.int))) (fun E hE => ⟨same_upd hE, upd_same⟩) (fun E i H2 hE _ hP => lst_of ((hSH.trans hP.1) _ _ hu)) (fun E i x H2 hE hx hP => ?_) (fun E H2 hE hP => ?_)
        · obtain ⟨hS3, hE2⟩ := hP
          have hi : i < ps.length := by rw [← hps.1]; exact (List.getElem?_eq_some_iff.mp hx).1
          have ho := List.getElem?_eq_getElem hi
          obtain ⟨v', hv', hpc⟩ := hps.2 i _ ho
          rw [hx] at hv'
          cases hv'
          rw [take_snoc ho, wsOf_snoc]
          generalize ps[i] = o at hpc
          have hpc2 := hpc.mono (hSH.trans hS3)
          have hwl : ((wsOf (ps.take i)).map V.int).length ≤ 200 := by
            rw [List.length_map]
            unfold wsOf
            refine Nat.le_trans (List.length_filterMap_le ..) ?_
            rw [List.length_take]
            omega
          refine ⟨rfl, ?_⟩
          walk_at "rd"
          cases o with
          | none =>
            cases (show x = .non from hpc2)
            rw [decide_eq_true rfl]
            refine iteF ?_
            refine ⟨hS3, ?_⟩
            show H2 E = some (.lst ((wsOf (ps.take i) ++ []).map V.int))
            rw [List.append_nil]
            exact hE2
          | some y =>
            obtain ⟨n, w, m, l⟩ := y
            obtain ⟨t, rfl, ht⟩ := hpc2
            rw [decide_eq_false (show ¬ V.ref t = .non from fun z => by cases z)]
            refine iteT ?_
            walk_at "rd"
            refine ix_T (tup_of ht) (by rfl) ?_
            refine ⟨_, hE2, Nat.lt_of_le_of_lt hwl (by decide), same_mut hS3 hE, ?_⟩
            rw [upd_same, List.map_append]
            rfl
        · obtain ⟨hS3, hE2⟩ := hP
          rw [hps.1, List.take_of_length_le (Nat.le_refl _)] at hE2
          walk_at "rd"
          have fin : ∀ z : Int, z = topI (wsOf ps) → (tRet (tTup (tCons (tCB (rTUPLE K) (tCons (tVar 5) tNil)) (tCons (tVar 6) (tCons (tOp (rADD K) (tVar 10) (tC (.int 1))) tNil))))) { nx := fun _ H' => Q .non H', rt := Q } [some (.ref p), some (.int sg), some (.int age), some (.ref D), y4, some (.ref R), some (.int nm), some (.int wr), some .non, y9, some (.int z), y11] H2 := by
            rintro z rfl
            walk_at "rd"
            have hR2 := hS3 _ _ hRs
            refine tu_L (lst_of hR2) fun a ha => ?_
            walk_at "rd"
            refine ⟨by show 3 ≤ sizeLine; decide, fun b hb => ?_⟩
            have hSb := same_upd hb (o := .tup [V.ref a, .int nm, .int (topI (wsOf ps) + 1)])
            refine q _ _ (((hS.trans (hSH.trans hS3)).trans (same_upd ha)).trans hSb) ?_
            unfold toldD
            rw [hfl']
            refine .tup (tup_of upd_same) (.cons (.tup (same_sqt hSb (tup_of upd_same)) (dp_strs _ rs)) (.cons (.int _) (.cons (.int _) .nil)))
          refine mxd_L (lst_of hE2) (fun e => ?_) (fun m hm hub => ?_)
          · exact fin (-1) (top_of_nil e).symm
          · exact fin m (top_of_max hm hub)
      | some y =>
        obtain ⟨t, nx, w'⟩ := y
        rw [hrec] at hv hfl
        obtain ⟨a, rfl, ha⟩ := hv
        have hlt := flat_rec.recd_lt sg wr _ _ _ _ hrec
        rw [List.length_drop] at hlt
        have hfl' : flat sg ps 0 [] 0 0 0 [] = flat sg ((ps.drop nm).drop (nx - nm)) nx [] nx w' w' (rs ++ [t]) := hfl
        rw [List.drop_drop, show nm + (nx - nm) = nx by omega] at hfl'
        rw [decide_eq_false (show ¬ V.ref a = .non from fun z => by cases z)]
        refine iteT ?_
        refine ⟨fun σ' H'' => ∃ k', k' < ps.length - nm ∧ ∃ (rs : List (List Nat)) (nm wr : Nat) (v : V) (y4 y9 y10 y11 : Option V), σ' = [some (.ref p), some (.int sg), some (.int age), some (.ref D), y4, some (.ref R), some (.int nm), some (.int wr), some v, y9, y10, y11] ∧ Same H1 H'' ∧ H'' R = some (.lst (tv rs)) ∧ RecV H'' v (recd sg wr (ps.drop nm) nm [] none) ∧ nm ≤ ps.length ∧ rs.length ≤ nm ∧ k' = ps.length - nm ∧ flat sg ps 0 [] 0 0 0 [] = flat sg (ps.drop nm) nm [] nm wr wr rs, fun _ _ h => h, ?_⟩
        walk_at "rd"
        refine gt_T (tup_of ha) rfl ?_
        walk_at "rd"
        refine x_tyL (lst_of hRs) ?_
        walk_at "rd"
        refine ap_L hRs (by rw [tv_len]; omega) ?_
        rw [show tv rs ++ [V.str (S t)] = tv (rs ++ [t]) by rw [tv_app]; rfl]
        have hS4 := same_mut (o := .lst (tv (rs ++ [t]))) hSH hR
        walk_at "rd"
        refine ⟨D, us, ps, age, sg, nx, w', rfl, lst_of (hS4 _ _ hu), hps.mono hS4, by omega, hpn, hsm, h19, fun v5 H5 hS5 hv5 => ?_⟩
        refine ⟨ps.length - nx, by omega, rs ++ [t], nx, w', v5, _, _, _, _, rfl, hS4.trans hS5, hS5 _ _ upd_same, hv5, by omega, ?_, rfl, hfl'⟩
        rw [List.length_append]
        show rs.length + 1 ≤ nx
        omega
/-! told_log -/
def sp_told_log (K : PySem.W.Frag) : Sp := fun vs H Q _ => ∃ (p : Addr) (ls : List (List Nat)) (sg first count age : Nat), vs = [.ref p, .int sg, .int first, .int count, .int age] ∧ SqT K H p (tv ls) ∧ 4 ≤ ls.length ∧ ls.length ≤ 200 ∧ 100 ≤ sg ∧ sg ≤ 1000 ∧ Blk sg ls ∧ 1 ≤ count ∧ count ≤ 197 ∧ first + count ≤ ls.length ∧ age ≤ 999999 ∧ ∀ v H', Same H H' → Dp K H' v (toldD sg (((ls.drop first).take count).map (ofAge age))) → Q v H'
theorem ok_told_log (Y : Fx K mg) : FnOk P w K mg base CX0 5 Y.a_told_log Y.fd_told_log ["image", "signs", "first", "count", "age"] (sp_told_log K) := by
  refine Y.F_told_log.ok sc_told_log (fun vs H Q E h => ?_) (fun cdv A outer s H vs Q E hr h => ?_)
  · obtain ⟨p, ls, sg, first, count, age, rfl, _⟩ := h
    rfl
  · obtain ⟨p, ls, sg, first, count, age, rfl, hp, h4, h200, hs0, hs1, hb, hc0, hc1, hfc, ha, q⟩ := h
    refine ⟨_, b_told_log Y (ok_check_age Y) (ok_check_area Y) (ok_check_image Y) (ok_check_signs Y) (ok_told_run Y) hr, ?_⟩
    show t_told_log K _ _ _ _ _ _ [some (.ref p), some (.int sg), some (.int first), some (.int count), some (.int age)] H
    unfold t_told_log
    walk_at "rd"
    refine ⟨sg, rfl, by omega, by omega, ?_⟩
    walk_at "rd"
    refine ⟨p, ls, sg, rfl, hp, h4, h200, hs1, hb, fun H1 hS1 => ?_⟩
    have hp1 := same_sqt hS1 hp
    walk_at "rd"
    refine ln_t hp1 ?_
    rw [tv_len]
    walk_at "rd"
    refine ⟨first, count, ls.length, rfl, by omega, by omega, by omega, by omega, ?_⟩
    walk_at "rd"
    refine ⟨age, rfl, by omega, by omega, ?_⟩
    walk_at "rd"
    rw [show (first : Int) + (count : Int) = ((first + count : Nat) : Int) by omega]
    refine sl_T hp1 fun p2 H2 hS2 hp2 => ?_
    rw [cutV_mid] at hp2
    have e : ((tv ls).take (first + count)).drop first = tv ((ls.drop first).take count) := by
      unfold tv
      rw [List.map_take, List.map_drop, List.drop_take, Nat.add_sub_cancel_left]
    rw [e] at hp2
    walk_at "rd"
    refine ⟨p2, (ls.drop first).take count, sg, age, rfl, hp2, ?_, fun l hl => ?_, by omega, fun v H3 hS3 hv => ?_⟩
    · rw [List.length_take]
      omega
    · obtain ⟨a, b⟩ := hb l (List.mem_of_mem_drop (List.mem_of_mem_take hl))
      exact ⟨a, by omega⟩
    · exact q v H3 ((hS1.trans hS2).trans hS3) hv
end
end My

set_option Elab.async false
set_option linter.all false
set_option maxRecDepth 100000
set_option maxHeartbeats 1000000
namespace My
open PySem PySem.Spec PyProof.Rows L2
local macro_rules | `(tactic| walk_at "len") => `(tactic| first | assumption | omega | decide | (simp only [List.length_append, List.length_take, List.length_drop, List.length_cons, List.length_nil, List.length_replicate]; omega))
local macro_rules | `(tactic| walk_at "side") => `(tactic| first | assumption | exact Nat.zero_le _ | decide | omega)
local macro_rules | `(tactic| walk_at "rd1") => `(tactic| first
  | with_reducible refine s_seq ?_
  | with_reducible refine x_gsub ?_
  | with_reducible refine s_asg ?_
  | ((with_reducible refine s_gn ?_); dsimp only [List.set])
  | ((with_reducible refine x_var (v := ?rdv) ?rdhv ?_); (case rdhv => rfl))
  | with_reducible refine x_c ?_
  | with_reducible refine x_op ?_
  | with_reducible refine x_cons ?_
  | with_reducible refine x_nil ?_
  | with_reducible refine x_cb ?_
  | with_reducible refine x_call ?_
  | with_reducible refine s_if ?_
  | with_reducible refine s_ret ?_
  | with_reducible refine s_retN ?_
  | with_reducible refine s_next ?_
  | with_reducible refine s_brk ?_
  | with_reducible refine s_cont ?_
  | with_reducible refine s_drop ?_
  | with_reducible refine s_par ?_
  | with_reducible refine s_par3 ?_
  | ((with_reducible refine s_p2 ?_); dsimp only [List.set])
  | ((with_reducible refine s_p3 ?_); dsimp only [List.set])
  | with_reducible refine f_r1 ?_
  | with_reducible refine f_r2 ?_
  | with_reducible refine f_l ?_
  | with_reducible refine f_t ?_
  | with_reducible refine f_s ?_
  | with_reducible refine c_r1 ?_
  | with_reducible refine c_r2 ?_
  | with_reducible refine c_l ?_
  | with_reducible refine c_t ?_
  | with_reducible refine c_s ?_
  | with_reducible refine x_tst ?_
  | with_reducible refine x_tru ?_
  | with_reducible refine x_truB ?_
  | with_reducible refine x_bl2 ?_
  | with_reducible refine x_int ?_
  | with_reducible refine x_str ?_
  | with_reducible refine x_not ?_
  | with_reducible refine x_and ?_
  | with_reducible refine x_or ?_
  | with_reducible refine x_andV ?_
  | with_reducible refine x_orV ?_
  | with_reducible refine x_notV ?_
  | with_reducible refine x_if ?_
  | with_reducible refine x_yes ?_
  | with_reducible refine x_un ?_
  | with_reducible refine x_tup ?_
  | with_reducible refine x_lst ?_
  | with_reducible refine x_callK ?_
  | with_reducible refine x_callK0 ?_
  | with_reducible refine x_bm ?_
  | with_reducible refine x_bm0 ?_
  | with_reducible refine x_tyS ?_
  | with_reducible refine x_sl ?_
  | with_reducible refine x_nopart ?_
  | with_reducible refine x_part ?_
  | with_reducible refine x_fmt0 ?_
  | with_reducible refine x_gc ?_
  | with_reducible refine x_gz ?_
  | with_reducible refine x_ckw ?_
  | with_reducible refine x_fmt ?_
  | with_reducible refine x_chain ?_
  | with_reducible refine a_ii ?_
  | ((with_reducible refine sl_to ?rda ?rdb ?_); (case rda => walk_at "len"); (case rdb => walk_at "len"))
  | ((with_reducible refine sl_from ?rda ?rdb ?_); (case rda => walk_at "len"); (case rdb => walk_at "len"))
  | ((with_reducible refine sl_mid ?rda ?rdb ?rdc ?_); (case rda => walk_at "len"); (case rdb => walk_at "len"); (case rdc => walk_at "len"))
  | ((with_reducible refine a_SS ?rda ?_); (case rda => walk_at "len"))
  | ((with_reducible refine ln_S ?rda ?_); (case rda => walk_at "len"))
  | with_reducible refine e_SS ?_
  | with_reducible refine ne_SS ?_
  | with_reducible refine s_ii ?_
  | ((with_reducible refine md_ii ?rdc ?_); (case rdc => first | decide | assumption | omega))
  | with_reducible refine n_i ?_
  | with_reducible refine e_ii ?_
  | with_reducible refine e_bb ?_
  | with_reducible refine ne_ii ?_
  | with_reducible refine ne_bb ?_
  | with_reducible refine lt_ii ?_
  | with_reducible refine lt_ss ?_
  | with_reducible refine le_ii ?_
  | with_reducible refine gt_ii ?_
  | with_reducible refine gt_ss ?_
  | with_reducible refine ge_ii ?_
  | with_reducible refine e_ss ?_
  | with_reducible refine ne_ss ?_
  | with_reducible refine is_N ?_
  | with_reducible refine is_T ?_
  | with_reducible refine is_B ?_
  | with_reducible refine isn_N ?_
  | with_reducible refine isn_T ?_
  | with_reducible refine isn_B ?_
  | with_reducible refine in_s ?_
  | with_reducible refine nin_s ?_
  | with_reducible refine i_i ?_
  | with_reducible refine i_b ?_
  | with_reducible refine ab_i ?_
  | with_reducible refine mx_ii ?_
  | with_reducible refine mn_ii ?_
  | with_reducible refine ty_N ?_
  | with_reducible refine ty_B ?_
  | with_reducible refine ty_I ?_
  | with_reducible refine ty_S ?_
  | with_reducible refine ma_s ?_
  | with_reducible refine mp_s ?_
  | with_reducible refine mdg_s ?_
  | with_reducible refine mf_s ?_
  | with_reducible refine iteT ?_
  | with_reducible refine iteF ?_
  | with_reducible refine iteNt ?_
  | with_reducible refine iteNf ?_
  | with_reducible refine iteTd (by decide) ?_
  | with_reducible refine iteFd (by decide) ?_
  | with_reducible refine iteNd (by decide) ?_
  | with_reducible refine iteNdF (by decide) ?_
  | ((with_reducible refine iteFd ?rdn ?_); (case rdn => (intro rdz; cases rdz; done)))
  | ((with_reducible refine iteNdF ?rdn ?_); (case rdn => (intro rdz; cases rdz; done))))
local macro_rules | `(tactic| walk_at "rd") => `(tactic| (repeat walk_at "rd1"))
section
variable {P : Program} {w : World} {K : PySem.W.Frag} {mg : Str → Option Value} {base : Heap}
theorem padOk6 : PadOk 6 = true := by decide
theorem pad_isT {n : Nat} (h : n < 1000000) : isT (pad 6 n) = true := by
  rw [pad_figs 6 n (by omega) (by decide)]
  exact isD_isT (figs_isD 6 n)
/-! a piece as the law writes it -/
def sp__law_piece (K : PySem.W.Frag) : Sp := fun vs H Q _ => ∃ (a n w : Nat) (g l : List Nat), vs = [.int a, .int n, .int w, .str (S g), .str (S l)] ∧ a < 1000000 ∧ n < 1000000 ∧ w < 1000000 ∧ g.length ≤ 10 ∧ isT g = true ∧ l.length ≤ 10000 ∧ isT l = true ∧ ∀ l' H', l'.length = 18 + g.length + l.length → isT l' = true → Same H H' → Q (.str (S l')) H'
theorem ok__law_piece (Y : Fx K mg) : FnOk P w K mg base CX0 1 Y.a__law_piece Y.fd__law_piece ["_law_age", "_law_number", "_law_writer", "_law_sign", "_law_part"] (sp__law_piece K) := by
  refine Y.F__law_piece.ok sc__law_piece (fun vs H Q E h => ?_) (fun cdv A outer s H vs Q E hr h => ?_)
  · obtain ⟨a, n, w, g, l, rfl, _⟩ := h
    rfl
  · obtain ⟨a, n, w, g, l, rfl, ha, hn, hw, hg, hgT, hl, hlT, q⟩ := h
    refine ⟨_, b__law_piece Y hr, ?_⟩
    show t__law_piece K _ [some (.int a), some (.int n), some (.int w), some (.str (S g)), some (.str (S l)), none, none] H
    unfold t__law_piece
    walk_at "rd"
    refine ⟨by show 3 ≤ sizeLine; decide, fun p hp => ?_⟩
    refine lcL_mk (xs := [V.int a, V.int n, V.int w]) (lst_of upd_same) (fun D i H' => Same (upd H p (.lst [V.int a, V.int n, V.int w])) H' ∧ H' D = some (.lst (tv (([a, n, w].take i).map (pad 6))))) (fun D hD => ⟨same_upd hD, upd_same⟩) (fun D i H' hD _ hP => lst_of (hP.1 _ _ upd_same)) (fun D i x H' hD hx hP => ?_) (fun D H' hD hP => ?_)
    · obtain ⟨hS, hH⟩ := hP
      obtain ⟨z, hz, rfl⟩ : ∃ z : Nat, [a, n, w][i]? = some z ∧ x = .int z := by
        have hx' : ([a, n, w].map fun k : Nat => V.int k)[i]? = some x := hx
        rw [List.getElem?_map] at hx'
        cases e : [a, n, w][i]? with
        | none => rw [e] at hx'; cases hx'
        | some z =>
          rw [e] at hx'
          exact ⟨z, rfl, (Option.some.inj hx').symm⟩
      have hz6 : z < 1000000 := by
        have := List.mem_of_getElem? hz
        simp only [List.mem_cons, List.not_mem_nil, or_false] at this
        rcases this with rfl | rfl | rfl <;> assumption
      have hi : i < 3 := (List.getElem?_eq_some_iff.mp hz).1
      have htk : [a, n, w].take (i + 1) = [a, n, w].take i ++ [z] := by
        rw [List.take_add_one, hz]
        rfl
      refine ⟨rfl, ?_⟩
      walk_at "rd"
      refine ⟨(z : Int), rfl, log_small hz6, ?_⟩
      walk_at "rd"
      refine ⟨_, 6, 48, rfl, rfl, padOk6, ?_⟩
      have e := rj_num z
      rw [show myRjust (toString (z : Int)) 6 48 = S (pad 6 z) from e]
      refine ⟨_, hH, ?_, same_mut hS hD, ?_⟩
      · rw [tv_len, List.length_map, List.length_take]
        exact Nat.lt_of_le_of_lt (show _ ≤ 3 by omega) (by decide)
      · rw [upd_same, htk, List.map_append, tv_app]
        rfl
    · obtain ⟨hS, hH⟩ := hP
      have hH' : H' D = some (.lst (tv [pad 6 a, pad 6 n, pad 6 w])) := hH
      have hfl : ([pad 6 a, pad 6 n, pad 6 w].flatten).length = 18 := by
        simp only [List.flatten_cons, List.flatten_nil, List.length_append, List.length_nil, pad_len ha, pad_len hn, pad_len hw]
      have hfT : isT [pad 6 a, pad 6 n, pad 6 w].flatten = true := by
        simp only [List.flatten_cons, List.flatten_nil, isT_app, pad_isT ha, pad_isT hn, pad_isT hw]
        rfl
      walk_at "rd"
      refine jn_0 (lst_of (by rw [← tv_eq]; exact hH')) (by omega) ?_
      generalize [pad 6 a, pad 6 n, pad 6 w].flatten = hd at hfl hfT
      walk_at "rd"
      refine q _ _ ?_ ?_ ((same_upd hp).trans hS)
      · rw [List.length_append, List.length_append, hfl]
      · rw [isT_app, isT_app, hfT, hgT, hlT]
        rfl
/-! the parts of a record -/
def sp__law_parts (K : PySem.W.Frag) : Sp := fun vs H Q _ => ∃ (l : List Nat) (sg : Nat), vs = [.str (S l), .int sg] ∧ l.length ≤ 10000 ∧ isT l = true ∧ 20 ≤ sg ∧ sg ≤ 100000 ∧ ∀ p H' ps, Same H H' → H p = none → H' p = some (.lst (tv ps)) → 1 ≤ ps.length → ps.length ≤ 10000 → Blk (sg - 19) ps → Q (.ref p) H'
theorem ok__law_parts (Y : Fx K mg) : FnOk P w K mg base CX0 1 Y.a__law_parts Y.fd__law_parts ["_law_record", "_law_signs"] (sp__law_parts K) := by
  refine Y.F__law_parts.ok sc__law_parts (fun vs H Q E h => ?_) (fun cdv A outer s H vs Q E hr h => ?_)
  · obtain ⟨l, sg, rfl, _⟩ := h
    rfl
  · obtain ⟨l, sg, rfl, hl, hT, h20, hsg, q⟩ := h
    refine ⟨_, b__law_parts Y hr, ?_⟩
    show t__law_parts K _ [some (.str (S l)), some (.int sg), none, none] H
    unfold t__law_parts
    walk_at "rd"
    show iRng3 _ _ _ _
    show tCons _ _ _ _ _
    walk_at "rd"
    have hfull : (sg : Int) - 19 = ((sg - 19 : Nat) : Int) := by omega
    have hmax : (if (l.length : Int) > (1 : Int) then (l.length : Int) else (1 : Int)) = ((max l.length 1 : Nat) : Int) := by
      split <;> omega
    rw [hfull, hmax]
    generalize hm : max l.length 1 = m
    have hm1 : 1 ≤ m := by rw [← hm]; exact Nat.le_max_right _ _
    have hm2 : m ≤ 10000 := by rw [← hm]; exact Nat.max_le.mpr ⟨hl, by decide⟩
    generalize hf : sg - 19 = f at q
    have hf1 : 1 ≤ f := by omega
    have hf2 : f ≤ 100000 := by omega
    have hnn : (m - 1) / f + 1 ≤ 10000 := by
      have := Nat.div_le_self (m - 1) f
      omega
    refine ⟨0, m, f, (m - 1) / f + 1, rfl, ⟨by omega, by omega, ?_, ?_⟩, ?_⟩
    · exact small_pos hm1 (by omega) hf1 (by omega)
    · exact rsize_pos hm1 hf1
    · intro D hD
      refine lc_rangeC (lo := 0) (c := (f : Int)) (n := (m - 1) / f + 1) (fun i H' => Same H H' ∧ ∃ ps, H' D = some (.lst (tv ps)) ∧ ps.length = i ∧ Blk f ps) ⟨same_upd hD, [], upd_same, rfl, fun _ h => by cases h⟩ (fun i H' hi hP => ?_) (fun H' hP => ?_)
      · obtain ⟨hS, ps, hx, hxl, hb⟩ := hP
        refine ⟨rfl, ?_⟩
        obtain ⟨a, ha⟩ : ∃ a : Nat, (0 : Int) + (i : Nat) * (f : Int) = (a : Int) := ⟨i * f, by rw [Int.zero_add, Int.natCast_mul]⟩
        rw [ha]
        walk_at "rd"
        refine ⟨tv ps, hx, Nat.lt_of_le_of_lt (show (tv ps).length ≤ 10000 by rw [tv_len]; omega) (by decide), ?_⟩
        refine ⟨same_mut hS hD, ps ++ [(l.take (Int.toNat ((a : Int) + (f : Int)))).drop (Int.toNat (a : Int))], ?_, ?_, ?_⟩
        · rw [upd_same, tv_app]
          rfl
        · rw [List.length_append, hxl]
          rfl
        · intro z hz
          rcases List.mem_append.mp hz with h | h
          · exact hb z h
          · rw [List.mem_singleton.mp h]
            refine ⟨isT_drop _ (isT_take _ hT), ?_⟩
            rw [List.length_drop, List.length_take]
            omega
      · obtain ⟨hS, ps, hx, hxl, hb⟩ := hP
        exact q D H' ps hS hD hx (by rw [hxl]; exact Nat.succ_le_succ (Nat.zero_le _)) (by omega) hb
/-! six figures -/
def sp__law_six (K : PySem.W.Frag) : Sp := fun vs H Q _ => ∃ i : Int, vs = [.int i] ∧ ∀ z : Nat, z < 1000000 → Q (.str (S (pad 6 z))) H
theorem ok__law_six (Y : Fx K mg) : FnOk P w K mg base CX0 1 Y.a__law_six Y.fd__law_six ["_law_number"] (sp__law_six K) := by
  refine Y.F__law_six.ok sc__law_six (fun vs H Q E h => ?_) (fun cdv A outer s H vs Q E hr h => ?_)
  · obtain ⟨i, rfl, _⟩ := h
    rfl
  · obtain ⟨i, rfl, q⟩ := h
    refine ⟨_, b__law_six Y hr, ?_⟩
    show t__law_six K _ [some (.int i)] H
    unfold t__law_six
    walk_at "rd"
    have hb : 0 ≤ (if (if i < 999999 then i else 999999) > 0 then (if i < 999999 then i else 999999) else 0) ∧ (if (if i < 999999 then i else 999999) > 0 then (if i < 999999 then i else 999999) else 0) < 1000000 := by
      split <;> split <;> omega
    generalize (if (if i < 999999 then i else 999999) > 0 then (if i < 999999 then i else 999999) else 0) = e at hb
    obtain ⟨z, rfl⟩ : ∃ z : Nat, e = (z : Int) := ⟨e.toNat, by omega⟩
    have hz6 : z < 1000000 := by omega
    refine ⟨(z : Int), rfl, log_small hz6, ?_⟩
    walk_at "rd"
    refine ⟨_, 6, 48, rfl, rfl, padOk6, ?_⟩
    have e := rj_num z
    rw [show myRjust (toString (z : Int)) 6 48 = S (pad 6 z) from e]
    exact q z hz6
/-! the law's own reading -/
def RlV (H H' : Hp) (v : V) : Option (Nat × Pc) → Prop
  | none => v = .non
  | some (a, n, w, m, p) => ∃ t, v = .ref t ∧ H t = none ∧ H' t = some (.lst [.int a, .int n, .int w, .str (S [if m then 43 else 46]), .str (S p)])
theorem mem_fig (c : Nat) : c ∈ [48, 49, 50, 51, 52, 53, 54, 55, 56, 57] ↔ 48 ≤ c ∧ c ≤ 57 := by
  simp only [List.mem_cons, List.not_mem_nil, or_false]
  omega
theorem isD_snoc {l : List Nat} {i c : Nat} (h : l[i]? = some c) : isD (l.take (i + 1)) = (isD (l.take i) && (decide (48 ≤ c) && decide (c ≤ 57))) := by
  rw [List.take_add_one, h]
  unfold isD
  show List.all (_ ++ [c]) _ = _
  rw [List.all_append]
  simp
theorem eqv_ints (ns : List Int) : PyData.eqv (.list (ns.map PyData.int)) (.list []) = decide (ns = []) := by
  cases ns with
  | nil => rfl
  | cons n ns =>
    rw [decide_eq_false (by intro h; cases h)]
    rfl
def sp__law_read (K : PySem.W.Frag) : Sp := fun vs H Q _ => ∃ l : List Nat, vs = [.str (S l)] ∧ isT l = true ∧ l.length ≤ 100000 ∧ ∀ v H', Same H H' → RlV H H' v (rdP l) → Q v H'
theorem ok__law_read (Y : Fx K mg) : FnOk P w K mg base CX0 1 Y.a__law_read Y.fd__law_read ["_law_block"] (sp__law_read K) := by
  refine Y.F__law_read.ok sc__law_read (fun vs H Q E h => ?_) (fun cdv A outer st H vs Q E hr h => ?_)
  · obtain ⟨l, rfl, _⟩ := h
    rfl
  · obtain ⟨l, rfl, hT, hl, q⟩ := h
    refine ⟨_, b__law_read Y hr, ?_⟩
    show t__law_read K _ [some (.str (S l)), none] H
    unfold t__law_read
    walk_at "rd"
    refine ite2' (fun e => ?_) (fun e => ?_)
    · walk_at "rd"
      have h19 : ¬ 19 ≤ l.length := by have := of_decide_eq_true e; omega
      have e0 : rdP l = none := if_neg (fun z => h19 z.1)
      rw [e0] at q
      exact q _ H (Same.refl H) rfl
    · have h19 : 19 ≤ l.length := by have := of_decide_eq_false e; omega
      walk_at "rd"
      refine ix_SS (by decide) (by omega) (by omega) fun c18 hc => ?_
      have hc : l[18]? = some c18 := hc
      rw [show ("+." : Str) = S [43, 46] from rfl, ← S_one]
      walk_at "rd"
      rw [S_cps]
      refine ite2' (fun e => ?_) (fun e => ?_)
      · walk_at "rd"
        have hn : c18 ∉ [43, 46] := by
          rw [Bool.not_eq_true'] at e
          exact of_decide_eq_false e
        have e0 : rdP l = none := if_neg (fun z => hn (by
          rw [hc] at z
          rcases z.2 with z | z
          · rw [Option.some.inj z]; decide
          · rw [Option.some.inj z]; decide))
        rw [e0] at q
        exact q _ H (Same.refl H) rfl
      · have hs : l[18]? = some 43 ∨ l[18]? = some 46 := by
          rw [Bool.not_eq_false'] at e
          have := of_decide_eq_true e
          rw [hc]
          simp only [List.mem_cons, List.not_mem_nil, or_false] at this
          rcases this with z | z
          · exact .inl (congrArg some z)
          · exact .inr (congrArg some z)
        walk_at "rd"
        refine lcR1_mk (by decide) (by decide) (fun D i H' => Same H H' ∧ ∃ gr : List Int, H' D = some (.lst (gr.map V.int)) ∧ gr.length ≤ i ∧ decide (gr = []) = isD (l.take i)) (fun D hD => ⟨same_upd hD, [], upd_same, Nat.le_refl _, rfl⟩) (fun D i H1 hD hi hP => ?_) (fun D H1 hD hP => ?_)
        · obtain ⟨hS, gr, hg, hgl, hgD⟩ := hP
          have hi18 : i < 18 := hi
          refine ⟨rfl, ?_⟩
          walk_at "rd"
          refine ix_SS (by omega) (by omega) (by omega) fun c hcc => ?_
          rw [Int.toNat_natCast] at hcc
          rw [lit_figs, ← S_one]
          walk_at "rd"
          rw [S_cps]
          refine ite2' (fun e => ?_) (fun e => ?_)
          · rw [Bool.not_eq_true'] at e
            have hn : ¬ (48 ≤ c ∧ c ≤ 57) := fun z => of_decide_eq_false e ((mem_fig c).mpr z)
            walk_at "rd"
            refine ⟨_, hg, ?_, same_mut hS hD, gr ++ [(i : Int)], ?_, ?_, ?_⟩
            · rw [List.length_map]
              exact Nat.lt_of_le_of_lt (show gr.length ≤ 18 by omega) (by decide)
            · rw [upd_same, List.map_append]
              rfl
            · rw [List.length_append]
              exact Nat.succ_le_succ hgl
            · rw [isD_snoc hcc, decide_eq_false (by simp)]
              by_cases h1 : 48 ≤ c
              · rw [decide_eq_false (show ¬ c ≤ 57 from fun z => hn ⟨h1, z⟩), Bool.and_false, Bool.and_false]
              · rw [decide_eq_false h1, Bool.false_and, Bool.and_false]
          · rw [Bool.not_eq_false'] at e
            have hn := (mem_fig c).mp (of_decide_eq_true e)
            refine ⟨hS, gr, hg, by omega, ?_⟩
            rw [isD_snoc hcc, decide_eq_true hn.1, decide_eq_true hn.2, hgD]
            simp
        · obtain ⟨hS, gr, hg, hgl, hgD⟩ := hP
          walk_at "rd"
          refine ⟨Nat.zero_le _, fun p2 hp2 => ?_⟩
          have hg2 := same_upd hp2 (o := .lst []) _ _ hg
          have hS2 := same_new hS hp2 (o := .lst [])
          refine ne_d (dp_ints gr (lst_of hg2)) (.lst (lst_of upd_same) .nil) (shaped_ints gr) (by decide) ?_
          rw [eqv_ints, hgD]
          generalize upd H1 p2 (.lst []) = H2 at hS2
          walk_at "rd"
          have hgD' : isD (l.take (Int.toNat 18)) = isD (l.take 18) := rfl
          refine ite2' (fun e => ?_) (fun e => ?_)
          · rw [Bool.not_eq_true', hgD'] at e
            obtain ⟨i, c, hi, hcc, hn⟩ := isD_not e
            walk_at "rd"
            rw [rdP_no hi hcc hn] at q
            exact q _ _ hS2 rfl
          · rw [Bool.not_eq_false', hgD'] at e
            have eD : isD (l.take 18) = true := e
            walk_at "rd"
            have ne : ∀ {a b : Nat}, a < b → b ≤ 18 → (l.take b).drop a ≠ [] := fun {a b} h1 h2 z => by
              have := congrArg List.length z
              rw [List.length_drop, List.length_take, List.length_nil] at this
              omega
            have lx : ∀ a b : Nat, b ≤ 18 → ((l.take b).drop a).length ≤ 640 := fun a b h2 => by
              rw [List.length_drop, List.length_take]
              omega
            have d0 := isD_cut (a := 0) (b := 6) e (by decide)
            have n0 := ne (a := 0) (b := 6) (by decide) (by decide)
            have l0 := lx 0 6 (by decide)
            rw [List.drop_zero] at d0 n0 l0
            refine i_s (SX.int_S (a := l.take 6) d0 n0 (by omega)) (by rw [S_len]; exact l0) ?_
            walk_at "rd"
            refine i_s (SX.int_S (a := (l.take 12).drop 6) (isD_cut e (by decide)) (ne (by decide) (by decide)) (Nat.le_trans (lx 6 12 (by decide)) (by decide))) (by rw [S_len]; exact lx 6 12 (by decide)) ?_
            walk_at "rd"
            refine i_s (SX.int_S (a := (l.take 18).drop 12) (isD_cut e (by decide)) (ne (by decide) (by decide)) (Nat.le_trans (lx 12 18 (by decide)) (by decide))) (by rw [S_len]; exact lx 12 18 (by decide)) ?_
            walk_at "rd"
            refine ix_SS (by decide) (by omega) (by omega) fun c' hc' => ?_
            have e18 : c' = c18 := by
              have : l[18]? = some c' := hc'
              rw [hc] at this
              exact (Option.some.inj this).symm
            subst e18
            walk_at "rd"
            refine ⟨by show 5 ≤ sizeLine; decide, fun t ht => ?_⟩
            rw [rdP_yes h19 hs eD] at q
            refine q _ _ (same_new hS2 ht) ⟨t, rfl, hS2.free ht, ?_⟩
            rw [upd_same]
            have e43 : (if decide (l[18]? = some 43) = true then 43 else 46) = c' := by
              rw [hc]
              rcases hs with h | h
              · rw [hc] at h
                cases h
                rfl
              · rw [hc] at h
                cases h
                rfl
            rw [e43]
            rfl
end
end My

set_option Elab.async false
set_option linter.all false
set_option maxRecDepth 100000
set_option maxHeartbeats 1000000
namespace My
open PySem PySem.Spec PyProof.Rows L2
local macro_rules | `(tactic| walk_at "len") => `(tactic| first | assumption | omega | decide | (simp only [List.length_append, List.length_take, List.length_drop, List.length_cons, List.length_nil, List.length_replicate]; omega))
local macro_rules | `(tactic| walk_at "side") => `(tactic| first | assumption | exact Nat.zero_le _ | decide | omega)
local macro_rules | `(tactic| walk_at "rd1") => `(tactic| first
  | with_reducible refine s_seq ?_
  | with_reducible refine x_gsub ?_
  | with_reducible refine s_asg ?_
  | ((with_reducible refine s_gn ?_); dsimp only [List.set])
  | ((with_reducible refine x_var (v := ?rdv) ?rdhv ?_); (case rdhv => rfl))
  | with_reducible refine x_c ?_
  | with_reducible refine x_op ?_
  | with_reducible refine x_cons ?_
  | with_reducible refine x_nil ?_
  | with_reducible refine x_cb ?_
  | with_reducible refine x_call ?_
  | with_reducible refine s_if ?_
  | with_reducible refine s_ret ?_
  | with_reducible refine s_retN ?_
  | with_reducible refine s_next ?_
  | with_reducible refine s_brk ?_
  | with_reducible refine s_cont ?_
  | with_reducible refine s_drop ?_
  | with_reducible refine s_par ?_
  | with_reducible refine s_par3 ?_
  | ((with_reducible refine s_p2 ?_); dsimp only [List.set])
  | ((with_reducible refine s_p3 ?_); dsimp only [List.set])
  | with_reducible refine f_r1 ?_
  | with_reducible refine f_r2 ?_
  | with_reducible refine f_l ?_
  | with_reducible refine f_t ?_
  | with_reducible refine f_s ?_
  | with_reducible refine c_r1 ?_
  | with_reducible refine c_r2 ?_
  | with_reducible refine c_l ?_
  | with_reducible refine c_t ?_
  | with_reducible refine c_s ?_
  | with_reducible refine x_tst ?_
  | with_reducible refine x_tru ?_
  | with_reducible refine x_truB ?_
  | with_reducible refine x_bl2 ?_
  | with_reducible refine x_int ?_
  | with_reducible refine x_str ?_
  | with_reducible refine x_not ?_
  | with_reducible refine x_and ?_
  | with_reducible refine x_or ?_
  | with_reducible refine x_andV ?_
  | with_reducible refine x_orV ?_
  | with_reducible refine x_notV ?_
  | with_reducible refine x_if ?_
  | with_reducible refine x_yes ?_
  | with_reducible refine x_un ?_
  | with_reducible refine x_tup ?_
  | with_reducible refine x_lst ?_
  | with_reducible refine x_callK ?_
  | with_reducible refine x_callK0 ?_
  | with_reducible refine x_bm ?_
  | with_reducible refine x_bm0 ?_
  | with_reducible refine x_tyS ?_
  | with_reducible refine x_sl ?_
  | with_reducible refine x_nopart ?_
  | with_reducible refine x_part ?_
  | with_reducible refine x_fmt0 ?_
  | with_reducible refine x_gc ?_
  | with_reducible refine x_gz ?_
  | with_reducible refine x_ckw ?_
  | with_reducible refine x_fmt ?_
  | with_reducible refine x_chain ?_
  | with_reducible refine a_ii ?_
  | ((with_reducible refine sl_to ?rda ?rdb ?_); (case rda => walk_at "len"); (case rdb => walk_at "len"))
  | ((with_reducible refine sl_from ?rda ?rdb ?_); (case rda => walk_at "len"); (case rdb => walk_at "len"))
  | ((with_reducible refine sl_mid ?rda ?rdb ?rdc ?_); (case rda => walk_at "len"); (case rdb => walk_at "len"); (case rdc => walk_at "len"))
  | ((with_reducible refine a_SS ?rda ?_); (case rda => walk_at "len"))
  | ((with_reducible refine ln_S ?rda ?_); (case rda => walk_at "len"))
  | with_reducible refine e_SS ?_
  | with_reducible refine ne_SS ?_
  | with_reducible refine s_ii ?_
  | ((with_reducible refine md_ii ?rdc ?_); (case rdc => first | decide | assumption | omega))
  | with_reducible refine n_i ?_
  | with_reducible refine e_ii ?_
  | with_reducible refine e_bb ?_
  | with_reducible refine ne_ii ?_
  | with_reducible refine ne_bb ?_
  | with_reducible refine lt_ii ?_
  | with_reducible refine lt_ss ?_
  | with_reducible refine le_ii ?_
  | with_reducible refine gt_ii ?_
  | with_reducible refine gt_ss ?_
  | with_reducible refine ge_ii ?_
  | with_reducible refine e_ss ?_
  | with_reducible refine ne_ss ?_
  | with_reducible refine is_N ?_
  | with_reducible refine is_T ?_
  | with_reducible refine is_B ?_
  | with_reducible refine isn_N ?_
  | with_reducible refine isn_T ?_
  | with_reducible refine isn_B ?_
  | with_reducible refine in_s ?_
  | with_reducible refine nin_s ?_
  | with_reducible refine i_i ?_
  | with_reducible refine i_b ?_
  | with_reducible refine ab_i ?_
  | with_reducible refine mx_ii ?_
  | with_reducible refine mn_ii ?_
  | with_reducible refine ty_N ?_
  | with_reducible refine ty_B ?_
  | with_reducible refine ty_I ?_
  | with_reducible refine ty_S ?_
  | with_reducible refine ma_s ?_
  | with_reducible refine mp_s ?_
  | with_reducible refine mdg_s ?_
  | with_reducible refine mf_s ?_
  | with_reducible refine iteT ?_
  | with_reducible refine iteF ?_
  | with_reducible refine iteNt ?_
  | with_reducible refine iteNf ?_
  | with_reducible refine iteTd (by decide) ?_
  | with_reducible refine iteFd (by decide) ?_
  | with_reducible refine iteNd (by decide) ?_
  | with_reducible refine iteNdF (by decide) ?_
  | ((with_reducible refine iteFd ?rdn ?_); (case rdn => (intro rdz; cases rdz; done)))
  | ((with_reducible refine iteNdF ?rdn ?_); (case rdn => (intro rdz; cases rdz; done))))
local macro_rules | `(tactic| walk_at "rd") => `(tactic| (repeat walk_at "rd1"))
section
variable {P : Program} {w : World} {K : PySem.W.Frag} {mg : Str → Option Value} {base : Heap}
def RdLV (H : Hp) (v : V) : Option (Nat × Pc) → Prop
  | none => v = .non
  | some (a, n, w, m, p) => ∃ t, v = .ref t ∧ H t = some (.lst [.int a, .int n, .int w, .str (S [if m then 43 else 46]), .str (S p)])
theorem RdLV.mono {H H' : Hp} {v : V} {o : Option (Nat × Pc)} (e : Same H H') (h : RdLV H v o) : RdLV H' v o := by
  cases o with
  | none => exact h
  | some p =>
    obtain ⟨t, a, b⟩ := h
    exact ⟨t, a, e _ _ b⟩
theorem RdLV.mut {H : Hp} {v : V} {o : Option (Nat × Pc)} {D : Addr} {u : HO} (hD : v ≠ .ref D) (h : RdLV H v o) : RdLV (upd H D u) v o := by
  cases o with
  | none => exact h
  | some p =>
    obtain ⟨t, a, b⟩ := h
    refine ⟨t, a, ?_⟩
    rw [upd_ne]
    · exact b
    · rintro rfl
      exact hD a
theorem RlV.lv {H H' : Hp} {v : V} {o : Option (Nat × Pc)} (h : RlV H H' v o) : RdLV H' v o := by
  cases o with
  | none => exact h
  | some p =>
    obtain ⟨t, a, _, b⟩ := h
    exact ⟨t, a, b⟩
theorem RlV.ne {H H' : Hp} {v : V} {o : Option (Nat × Pc)} {D : Addr} {u : HO} (h : RlV H H' v o) (hD : H D = some u) : v ≠ .ref D := by
  cases o with
  | none =>
    cases (show v = .non from h)
    intro z
    cases z
  | some p =>
    obtain ⟨t, rfl, b, _⟩ := h
    intro z
    cases z
    rw [hD] at b
    cases b
def RsV (D : Addr) (H : Hp) (vs : List V) (qs : List (Option (Nat × Pc))) : Prop := vs.length = qs.length ∧ ∀ (i : Nat) (o : Option (Nat × Pc)), qs[i]? = some o → ∃ v, vs[i]? = some v ∧ RdLV H v o ∧ v ≠ .ref D
theorem RsV.mono {D : Addr} {H H' : Hp} {vs : List V} {ps : List (Option (Nat × Pc))} (e : Same H H') (h : RsV D H vs ps) : RsV D H' vs ps := ⟨h.1, fun i o hi => by
  obtain ⟨v, a, b, c⟩ := h.2 i o hi
  exact ⟨v, a, b.mono e, c⟩⟩
theorem RsV.mut {D : Addr} {H : Hp} {vs : List V} {ps : List (Option (Nat × Pc))} {u : HO} (h : RsV D H vs ps) : RsV D (upd H D u) vs ps := ⟨h.1, fun i o hi => by
  obtain ⟨v, a, b, c⟩ := h.2 i o hi
  exact ⟨v, a, b.mut c, c⟩⟩
theorem RsV.snoc {D : Addr} {H : Hp} {vs : List V} {ps : List (Option (Nat × Pc))} {v : V} {o : Option (Nat × Pc)} (h : RsV D H vs ps) (hv : RdLV H v o) (hn : v ≠ .ref D) : RsV D H (vs ++ [v]) (ps ++ [o]) := by
  refine ⟨by rw [List.length_append, List.length_append, h.1]; rfl, fun i o' hi => ?_⟩
  by_cases hlt : i < ps.length
  · rw [List.getElem?_append_left hlt] at hi
    obtain ⟨v', a, b⟩ := h.2 i o' hi
    exact ⟨v', by rw [List.getElem?_append_left (by rw [h.1]; exact hlt)]; exact a, b⟩
  · rw [List.getElem?_append_right (by omega)] at hi
    have hi2 : i - ps.length < 1 := (List.getElem?_eq_some_iff.mp hi).1
    have hi3 : i = ps.length := by omega
    subst hi3
    rw [Nat.sub_self] at hi
    cases hi
    exact ⟨v, by rw [List.getElem?_append_right (by rw [h.1]; exact Nat.le_refl _), h.1, Nat.sub_self]; rfl, hv, hn⟩
def ofA (age : Nat) : Option (Nat × Pc) → Option Pc
  | some (a, p) => if a = age then some p else none
  | none => none
theorem ofAge_eq (age : Nat) (l : List Nat) : ofAge age l = ofA age (rdP l) := by
  unfold ofAge ofA
  cases rdP l <;> rfl
def AllT (ls : List (List Nat)) : Prop := ∀ l ∈ ls, isT l = true
theorem shaped_strs (ls : List (List Nat)) (h : AllT ls) : SeqAt.shaped (.list (ls.map fun l => PyData.str (S l))) = true := by
  have h1 : PyData.canLayAll0 (ls.map fun l => PyData.str (S l)) = true := by
    induction ls with
    | nil => rfl
    | cons b bs ih =>
      have hb : PyData.strOk (S b) = true := by
        unfold PyData.strOk
        rw [← Array.all_toList, S_cps, List.all_eq_true]
        intro c hc
        have := isT_mem (h b (List.mem_cons_self ..)) hc
        exact decide_eq_true (by omega)
      simp [PyData.canLayAll0, PyData.canLay0, ih fun l hl => h l (List.mem_cons_of_mem _ hl), hb]
  have h2 : PyData.depthAll (ls.map fun l => PyData.str (S l)) ≤ 1 := by
    clear h1 h
    induction ls with
    | nil => simp [PyData.depthAll]
    | cons b bs ih =>
      simp only [List.map_cons, PyData.depthAll, PyData.depth] at *
      omega
  unfold SeqAt.shaped
  rw [Bool.and_eq_true]
  refine ⟨h1, decide_eq_true ?_⟩
  simp only [PyData.depth]
  omega
theorem eqv_strs (ls : List (List Nat)) : PyData.eqv (.list (ls.map fun l => PyData.str (S l))) (.list []) = decide (ls = []) := by
  cases ls with
  | nil => rfl
  | cons n ns =>
    rw [decide_eq_false (by intro h; cases h)]
    rfl
theorem rd_part {l : List Nat} {a n w : Nat} {m : Bool} {p : List Nat} (hT : isT l = true) (h : rdP l = some (a, n, w, m, p)) : isT p = true ∧ p.length ≤ l.length := by
  unfold rdP at h
  split at h
  · split at h
    · cases h
      exact ⟨isT_drop _ hT, by rw [List.length_drop]; omega⟩
    · cases h
  · cases h
/-! what the law reads of blocks -/
def sp__law_told (K : PySem.W.Frag) : Sp := fun vs H Q _ => ∃ (p : Addr) (ls : List (List Nat)) (sg age : Nat), vs = [.ref p, .int sg, .int age] ∧ SqL K H p (tv ls) ∧ ls.length ≤ 200 ∧ Blk 1000 ls ∧ 19 ≤ sg ∧ ∀ v H', Same H H' → Dp K H' v (toldD sg (ls.map (ofAge age))) → Q v H'
theorem ok__law_told (Y : Fx K mg) : FnOk P w K mg base CX0 2 Y.a__law_told Y.fd__law_told ["_law_blocks", "_law_signs", "_law_age"] (sp__law_told K) := by
  refine Y.F__law_told.ok sc__law_told (fun vs H Q E h => ?_) (fun cdv A outer s H vs Q E hr h => ?_)
  · obtain ⟨p, ls, sg, age, rfl, _⟩ := h
    rfl
  · obtain ⟨p, ls, sg, age, rfl, hp, hll, hb, h19, q⟩ := h
    refine ⟨_, b__law_told Y (ok__law_read Y) hr, ?_⟩
    show t__law_told K _ _ [some (.ref p), some (.int sg), some (.int age), none, none, none, none, none, none, none, none, none, none] H
    unfold t__law_told
    rw [show ("+" : Str) = S [43] from rfl, show ("." : Str) = S [46] from rfl]
    walk_at "rd"
    refine lcL_mk hp (fun D i H' => Same H H' ∧ ∃ us, H' D = some (.lst us) ∧ RsV D H' us ((ls.take i).map rdP)) (fun D hD => ⟨same_upd hD, [], upd_same, rfl, fun i o h => by cases h⟩) (fun D i H' hD _ hP => hP.1.seq hp) (fun D i x H' hD hx hP => ?_) (fun D H1 hD hP => ?_)
    · obtain ⟨hS, us, hu, hps⟩ := hP
      obtain ⟨l, hl, rfl⟩ := tv_get hx
      obtain ⟨hT, hlen⟩ := hb l (List.mem_of_getElem? hl)
      have hi := (List.getElem?_eq_some_iff.mp hl).1
      refine ⟨rfl, ?_⟩
      walk_at "rd"
      refine ⟨l, rfl, hT, by omega, fun v H2 hS2 hv => ?_⟩
      have hu2 := hS2 _ _ hu
      have hlu : us.length ≤ 200 := by
        rw [hps.1, List.length_map, List.length_take]
        omega
      refine ⟨us, hu2, Nat.lt_of_le_of_lt hlu (by decide), same_mut (hS.trans hS2) hD, us ++ [v], upd_same, ?_⟩
      rw [take_snoc hl, List.map_append]
      exact (hps.mono hS2).mut.snoc (hv.lv.mut (hv.ne hu)) (hv.ne hu)
    · obtain ⟨hS, us, hu, hps⟩ := hP
      rw [tv_len, List.take_of_length_le (Nat.le_refl _)] at hps
      have hqn : (ls.map rdP).length ≤ 200 := by rw [List.length_map]; exact hll
      have hqT : ∀ o ∈ ls.map rdP, ∀ a n w m l, o = some (a, n, w, m, l) → isT l = true ∧ l.length ≤ 1000 := by
        intro o ho a n w m l e
        obtain ⟨z, hz, rfl⟩ := List.mem_map.mp ho
        obtain ⟨z1, z2⟩ := hb z hz
        obtain ⟨w1, w2⟩ := rd_part z1 e
        exact ⟨w1, by omega⟩
      have hqs : ls.map (ofAge age) = (ls.map rdP).map (ofA age) := by
        rw [List.map_map]
        exact List.map_congr_left fun l _ => ofAge_eq age l
      rw [hqs] at q
      generalize ls.map rdP = qs at hps hqn hqT q
      clear hqs
      have hun : us.length = qs.length := hps.1
      walk_at "rd"
      refine lcL_mk (lst_of hu) (fun E i H2 => Same H1 H2 ∧ H2 E = some (.lst ((wsOf ((qs.take i).map (ofA age))).map V.int))) (fun E hE => ⟨same_upd hE, upd_same⟩) (fun E i H2 hE _ hP => lst_of (hP.1 _ _ hu)) (fun E i x H2 hE hx hP => ?_) (fun E H2 hE hP => ?_)
      · obtain ⟨hS3, hE2⟩ := hP
        have hi : i < qs.length := by rw [← hun]; exact (List.getElem?_eq_some_iff.mp hx).1
        have ho := List.getElem?_eq_getElem hi
        obtain ⟨v', hv', hpc, _⟩ := hps.2 i _ ho
        rw [hx] at hv'
        cases hv'
        rw [take_snoc ho, List.map_append]
        generalize qs[i] = o at hpc
        rw [show (List.map (ofA age) [o]) = [ofA age o] from rfl, wsOf_snoc]
        have hpc2 := hpc.mono hS3
        have hwl : ((wsOf ((qs.take i).map (ofA age))).map V.int).length ≤ 200 := by
          rw [List.length_map]
          unfold wsOf
          refine Nat.le_trans (List.length_filterMap_le ..) ?_
          rw [List.length_map, List.length_take]
          omega
        refine ⟨rfl, ?_⟩
        walk_at "rd"
        cases o with
        | none =>
          cases (show x = .non from hpc2)
          rw [decide_eq_true rfl]
          refine iteF ?_
          refine iteF ?_
          refine ⟨hS3, ?_⟩
          show H2 E = some (.lst ((wsOf ((qs.take i).map (ofA age)) ++ []).map V.int))
          rw [List.append_nil]
          exact hE2
        | some y =>
          obtain ⟨a, n, w, m, l⟩ := y
          obtain ⟨t, rfl, ht⟩ := hpc2
          rw [decide_eq_false (show ¬ V.ref t = .non from fun z => by cases z)]
          refine iteT ?_
          walk_at "rd"
          refine ix_L (lst_of ht) (by rfl) ?_
          walk_at "rd"
          show if decide ((a : Int) = (age : Int)) = true then _ else _
          refine ite2' (fun e => ?_) (fun e => ?_)
          · have e1 : a = age := by have := of_decide_eq_true e; omega
            walk_at "rd"
            refine ix_L (lst_of ht) (by rfl) ?_
            refine ⟨_, hE2, Nat.lt_of_le_of_lt hwl (by decide), same_mut hS3 hE, ?_⟩
            rw [upd_same, show ofA age (some (a, n, w, m, l)) = some (n, w, m, l) from if_pos e1, List.map_append]
            rfl
          · have e1 : ¬ a = age := by have := of_decide_eq_false e; omega
            refine ⟨hS3, ?_⟩
            rw [show ofA age (some (a, n, w, m, l)) = none from if_neg e1]
            show H2 E = some (.lst ((wsOf ((qs.take i).map (ofA age)) ++ []).map V.int))
            rw [List.append_nil]
            exact hE2
      · obtain ⟨hS3, hE2⟩ := hP
        rw [hun, List.take_of_length_le (Nat.le_refl _)] at hE2
        have hpn : (qs.map (ofA age)).length = qs.length := List.length_map ..
        walk_at "rd"
        refine ⟨Nat.zero_le _, fun R hR => ?_⟩
        walk_at "rd"
        refine ⟨Nat.zero_le _, fun Pa hPa => ?_⟩
        walk_at "rd"
        refine ⟨by show 5 ≤ sizeLine; decide, fun T hT => ?_⟩
        refine gt_T (tup_of upd_same) rfl ?_
        walk_at "rd"
        have hR3 := same_new (same_upd hPa (o := .lst [])) hT (o := .tup [V.ref R, .ref Pa, .int 0, .int 0, .int 0]) R _ upd_same
        have hPa3 := same_upd hT (o := .tup [V.ref R, .ref Pa, .int 0, .int 0, .int 0]) Pa _ (upd_same (H := upd H2 R (.lst [])) (o := .lst []))
        have hS4 := same_new (same_new (same_upd hR (o := .lst [])) hPa (o := .lst [])) hT (o := .tup [V.ref R, .ref Pa, .int 0, .int 0, .int 0])
        have hRP : Pa ≠ R := ne_new upd_same hPa
        have hPa2 : H2 Pa = none := (same_upd hR).free hPa
        generalize upd (upd (upd H2 R (.lst [])) Pa (.lst [])) T (.tup [V.ref R, .ref Pa, .int 0, .int 0, .int 0]) = H3 at hR3 hPa3 hS4
        have after : ∀ (rs : List (List Nat)) (bg : Nat) (y4 y6 y8 y10 y11 y12 : Option V) (H' : Hp), Same H2 H' → H' R = some (.lst (tv rs)) → flat sg (qs.map (ofA age)) 0 [] 0 0 0 [] = (rs, bg) →
            tRet (tTup (tCons (tCB (rTUPLE K) (tCons (tVar 7) tNil)) (tCons (tVar 9) (tCons (tOp (rADD K) (tC (.int 1)) (tCB (rMax K) (tCons (tOp (rADD K) (tLst (tCons (tUn rNEG (tC (.int 1))) tNil)) (tVar 5)) tNil))) tNil)))) { nx := fun _ H' => Q .non H', rt := Q }
              [some (.ref p), some (.int sg), some (.int age), some (.ref D), y4, some (.ref E), y6, some (.ref R), y8, some (.int bg), y10, y11, y12] H' := by
          intro rs bg y4 y6 y8 y10 y11 y12 H' hSH hRs hF
          walk_at "rd"
          refine tu_L (lst_of hRs) fun a ha => ?_
          walk_at "rd"
          refine ⟨by show 1 ≤ sizeLine; decide, fun b hb => ?_⟩
          have hSb := same_new (same_upd ha (o := .tup (tv rs))) hb (o := .lst [V.int (-1)])
          walk_at "rd"
          have hwl : ((wsOf (qs.map (ofA age))).map V.int).length ≤ 200 := by
            rw [List.length_map]
            unfold wsOf
            refine Nat.le_trans (List.length_filterMap_le ..) ?_
            rw [List.length_map]
            omega
          refine a_ll upd_same (hSb _ _ (hSH _ _ hE2)) (Nat.le_trans (show _ ≤ 201 by rw [List.length_singleton]; omega) (by decide)) fun c hc => ?_
          walk_at "rd"
          have hSc := same_upd hc (o := .lst ([V.int (-1)] ++ (wsOf (qs.map (ofA age))).map V.int))
          refine mx_L (ns := -1 :: wsOf (qs.map (ofA age))) (lst_of upd_same) (Nat.succ_pos _) fun m hm hub => ?_
          have em := top_of_cons hm hub
          subst em
          walk_at "rd"
          refine ⟨by show 3 ≤ sizeLine; decide, fun d hd => ?_⟩
          have hSd := same_upd hd (o := .tup [V.ref a, .int bg, .int (1 + topI (wsOf (qs.map (ofA age))))])
          have hSa := (same_upd hb (H := upd H' a (.tup (tv rs))) (o := .lst [V.int (-1)])).trans (hSc.trans hSd)
          refine q _ _ ((((hS.trans hS3).trans hSH).trans hSb).trans (hSc.trans hSd)) ?_
          unfold toldD
          rw [hF, Int.add_comm 1]
          rw [Int.add_comm 1] at hSa
          exact .tup (tup_of upd_same) (.cons (.tup (same_sqt hSa (tup_of upd_same)) (dp_strs _ rs)) (.cons (.int _) (.cons (.int _) .nil)))
        refine ln_l (lst_of (hS4 _ _ (hS3 _ _ hu))) ?_
        rw [hun]
        walk_at "rd"
        refine for1_mk (by omega) (by omega) (fun i σ H' => ∃ (rs acc : List (List Nat)) (bg lst ho : Nat) (Pa : Addr) (y4 y6 y12 : Option V), σ = [some (.ref p), some (.int sg), some (.int age), some (.ref D), y4, some (.ref E), y6, some (.ref R), some (.ref Pa), some (.int bg), some (.int lst), some (.int ho), y12] ∧ Same H2 H' ∧ H' R = some (.lst (tv rs)) ∧ H' Pa = some (.lst (tv acc)) ∧ Pa ≠ R ∧ H2 Pa = none ∧ AllT acc ∧ rs.length ≤ i ∧ acc.length ≤ i ∧ acc.flatten.length ≤ 1000 * i ∧ flat sg (qs.map (ofA age)) 0 [] 0 0 0 [] = flat sg ((qs.map (ofA age)).drop i) i acc bg lst ho rs)
          ⟨[], [], 0, 0, 0, Pa, _, _, _, rfl, hS4, hR3, hPa3, hRP, hPa2, (fun _ h => by cases h), Nat.le_refl _, Nat.le_refl _, Nat.le_refl _, rfl⟩ (fun i σ H' hi hV => ?_) (fun σ H' hV => ?_)
        · obtain ⟨rs, acc, bg, lst, ho, Pa, y4, y6, y12, rfl, hSH, hRs, hAc, hne, hPn, hAT, hrl, hal, hfl, hF⟩ := hV
          have hi' : i < qs.length := by omega
          obtain ⟨v, hv, hpc, _⟩ := hps.2 i _ (List.getElem?_eq_getElem hi')
          have hdr : (qs.map (ofA age)).drop i = ofA age qs[i] :: (qs.map (ofA age)).drop (i + 1) := by
            rw [List.drop_eq_getElem_cons (by rw [hpn]; exact hi'), List.getElem_map]
          have hqo := hqT _ (List.getElem_mem hi')
          rw [hdr] at hF
          generalize qs[i] = o at hpc hF hqo
          have hpc1 := hpc.mono (hS3.trans hSH)
          walk_at "rd"
          refine ix_L (lst_of ((hS3.trans hSH) _ _ hu)) (atI_nat hv) ?_
          walk_at "rd"
          cases o with
          | none =>
            cases (show v = .non from hpc1)
            rw [decide_eq_true rfl]
            first | (refine iteT ?_; refine iteT ?_; refine s_brk ?_) | (refine iteT ?_; refine s_brk ?_) | refine s_brk ?_
            exact after rs bg _ _ _ _ _ _ H' hSH hRs hF
          | some y =>
            obtain ⟨a, n, w, m, l⟩ := y
            obtain ⟨t, rfl, ht⟩ := hpc1
            obtain ⟨hlT, hll⟩ := hqo a n w m l rfl
            rw [decide_eq_false (show ¬ V.ref t = .non from fun z => by cases z)]
            walk_at "rd"
            refine ix_L (lst_of ht) (by rfl) ?_
            walk_at "rd"
            show if (!decide ((a : Int) = (age : Int))) = true then _ else _
            refine ite2' (fun e => ?_) (fun e => ?_)
            · rw [Bool.not_eq_true'] at e
              have e1 : ¬ a = age := by have := of_decide_eq_false e; omega
              first | (refine iteT ?_; refine iteT ?_; refine s_brk ?_) | (refine iteT ?_; refine s_brk ?_) | refine s_brk ?_
              rw [show ofA age (some (a, n, w, m, l)) = none from if_neg e1] at hF
              exact after rs bg _ _ _ _ _ _ H' hSH hRs hF
            · rw [Bool.not_eq_false'] at e
              have e1 : a = age := by have := of_decide_eq_true e; omega
              rw [show ofA age (some (a, n, w, m, l)) = some (n, w, m, l) from if_pos e1, flat] at hF
              walk_at "rd"
              refine ix_L (lst_of ht) (by rfl) ?_
              walk_at "rd"
              show if (!decide ((n : Int) = (i : Int))) = true then _ else _
              refine ite2' (fun e => ?_) (fun e => ?_)
              · rw [Bool.not_eq_true'] at e
                have e2 : n ≠ i := by have := of_decide_eq_false e; omega
                first | (refine iteT ?_; refine iteT ?_; refine s_brk ?_) | (refine iteT ?_; refine s_brk ?_) | refine s_brk ?_
                rw [if_pos e2] at hF
                exact after rs bg _ _ _ _ _ _ H' hSH hRs hF
              · rw [Bool.not_eq_false'] at e
                have e2 : n = i := by have := of_decide_eq_true e; omega
                rw [if_neg (fun z => z e2)] at hF
                walk_at "rd"
                refine s_cut (fun σ' H'' => σ' = [some (.ref p), some (.int sg), some (.int age), some (.ref D), y4, some (.ref E), some (.ref t), some (.ref R), some (.ref Pa), some (.int bg), some (.int lst), some (.int (if acc = [] then w else ho : Nat)), some (.int i)] ∧ Same H' H'') ?_ ?_
                · walk_at "rd"
                  refine ⟨Nat.zero_le _, fun c hc => ?_⟩
                  have hSc := same_upd hc (o := .lst [])
                  refine e_d (.lst (lst_of (hSc _ _ hAc)) (dp_strs _ acc)) (.lst (lst_of upd_same) .nil) (shaped_strs acc hAT) (by decide) ?_
                  rw [eqv_strs]
                  generalize upd H' c (.lst []) = Hc at hSc
                  refine x_bl2 ?_
                  refine ite2' (fun e => ?_) (fun e => ?_)
                  · walk_at "rd"
                    refine ix_L (lst_of (hSc _ _ ht)) (by rfl) ?_
                    rw [if_pos (of_decide_eq_true e)]
                    exact ⟨rfl, hSc⟩
                  · walk_at "rd"
                    rw [if_neg (of_decide_eq_false e)]
                    exact ⟨rfl, hSc⟩
                · rintro σ' H5 ⟨rfl, hS5⟩
                  have ht5 := hS5 _ _ ht
                  have hRs5 := hS5 _ _ hRs
                  have hAc5 := hS5 _ _ hAc
                  have hS25 := hSH.trans hS5
                  generalize (if acc = [] then w else ho) = wr at hF
                  clear hS5 hRs hAc ht hSH
                  have hal2 : (acc ++ [l]).length ≤ i + 1 := by rw [List.length_append]; exact Nat.succ_le_succ hal
                  have hfs := flat_snoc acc l
                  have hAT2 : AllT (acc ++ [l]) := fun z hz => (List.mem_append.mp hz).elim (hAT z) fun h => by rw [List.mem_singleton.mp h]; exact hlT
                  have hS6 := same_mut (o := .lst (tv (acc ++ [l]))) hS25 hPn
                  have hRs6 : upd H5 Pa (.lst (tv (acc ++ [l]))) R = some (.lst (tv rs)) := by rw [upd_ne (Ne.symm hne)]; exact hRs5
                  have hAc6 : upd H5 Pa (.lst (tv (acc ++ [l]))) Pa = some (.lst (tv (acc ++ [l]))) := upd_same
                  have ht6 : upd H5 Pa (.lst (tv (acc ++ [l]))) t = some (.lst [.int a, .int n, .int w, .str (S [if m then 43 else 46]), .str (S l)]) := by
                    refine hS6 _ _ ?_ |>.trans rfl
                    obtain ⟨t', e', h'⟩ := hpc
                    cases e'
                    exact hS3 _ _ h'
                  walk_at "rd"
                  refine ix_L (lst_of ht5) (by rfl) ?_
                  walk_at "rd"
                  show if (!decide ((w : Int) = (wr : Int))) = true then _ else _
                  refine ite2' (fun e => ?_) (fun e => ?_)
                  · rw [Bool.not_eq_true'] at e
                    have e3 : w ≠ wr := by have := of_decide_eq_false e; omega
                    first | (refine iteT ?_; refine iteT ?_; refine s_brk ?_) | (refine iteT ?_; refine s_brk ?_) | refine s_brk ?_
                    rw [if_pos (.inl e3)] at hF
                    exact after rs bg _ _ _ _ _ _ H5 hS25 hRs5 hF
                  · rw [Bool.not_eq_false'] at e
                    have e3 : w = wr := by have := of_decide_eq_true e; omega
                    walk_at "rd"
                    refine ite2' (fun e => ?_) (fun e => ?_)
                    · have e4 : wr < lst := by have := of_decide_eq_true e; omega
                      first | (refine iteT ?_; refine iteT ?_; refine s_brk ?_) | (refine iteT ?_; refine s_brk ?_) | refine s_brk ?_
                      rw [if_pos (.inr (.inl e4))] at hF
                      exact after rs bg _ _ _ _ _ _ H5 hS25 hRs5 hF
                    · have e4 : ¬ wr < lst := by have := of_decide_eq_false e; omega
                      walk_at "rd"
                      refine ix_L (lst_of ht5) (by rfl) ?_
                      cases m with
                      | false =>
                        rw [if_neg (fun z => z.elim (fun z => z e3) fun z => z.elim e4 fun z => Bool.noConfusion z.1), if_neg Bool.false_ne_true] at hF
                        walk_at "rd"
                        walk_at "rd"
                        refine x_tyL (lst_of hAc5) ?_
                        walk_at "rd"
                        refine ix_L (lst_of ht5) (by rfl) ?_
                        walk_at "rd"
                        refine ap_L hAc5 (by rw [tv_len]; omega) ?_
                        rw [show tv acc ++ [V.str (S l)] = tv (acc ++ [l]) by rw [tv_app]; rfl]
                        generalize upd H5 Pa (.lst (tv (acc ++ [l]))) = H6 at hS6 hRs6 hAc6 ht6
                        walk_at "rd"
                        refine ix_L (lst_of ht6) (by rfl) ?_
                        walk_at "rd"
                        refine x_tyL (lst_of hRs6) ?_
                        walk_at "rd"
                        refine jn_0 (lst_of (by rw [← tv_eq]; exact hAc6)) (by omega) ?_
                        walk_at "rd"
                        refine ap_L hRs6 (by rw [tv_len]; omega) ?_
                        rw [show tv rs ++ [V.str (S (acc ++ [l]).flatten)] = tv (rs ++ [(acc ++ [l]).flatten]) by rw [tv_app]; rfl]
                        have hS7 := same_mut (o := .lst (tv (rs ++ [(acc ++ [l]).flatten]))) hS6 hR
                        walk_at "rd"
                        refine ⟨Nat.zero_le _, fun Pb hPb => ?_⟩
                        walk_at "rd"
                        refine ⟨_, _, _, _, _, Pb, _, _, _, rfl, same_new hS7 hPb, same_upd hPb _ _ upd_same, upd_same, ne_new upd_same hPb, hS7.free hPb, (fun _ h => by cases h), ?_, Nat.zero_le _, Nat.zero_le _, hF⟩
                        rw [List.length_append]
                        exact Nat.succ_le_succ hrl
                      | true =>
                        walk_at "rd"
                        walk_at "rd"
                        refine ix_L (lst_of ht5) (by rfl) ?_
                        walk_at "rd"
                        refine ite2' (fun e => ?_) (fun e => ?_)
                        · rw [Bool.not_eq_true'] at e
                          have e5 : l.length ≠ sg - 19 := by have := of_decide_eq_false e; omega
                          first | (refine iteT ?_; refine iteT ?_; refine s_brk ?_) | (refine iteT ?_; refine s_brk ?_) | refine s_brk ?_
                          rw [if_pos (.inr (.inr ⟨rfl, e5⟩))] at hF
                          exact after rs bg _ _ _ _ _ _ H5 hS25 hRs5 hF
                        · rw [Bool.not_eq_false'] at e
                          have e5 : l.length = sg - 19 := by have := of_decide_eq_true e; omega
                          rw [if_neg (fun z => z.elim (fun z => z e3) fun z => z.elim e4 fun z => z.2 e5), if_pos rfl] at hF
                          walk_at "rd"
                          refine x_tyL (lst_of hAc5) ?_
                          walk_at "rd"
                          refine ix_L (lst_of ht5) (by rfl) ?_
                          walk_at "rd"
                          refine ap_L hAc5 (by rw [tv_len]; omega) ?_
                          rw [show tv acc ++ [V.str (S l)] = tv (acc ++ [l]) by rw [tv_app]; rfl]
                          generalize upd H5 Pa (.lst (tv (acc ++ [l]))) = H6 at hS6 hRs6 hAc6 ht6
                          walk_at "rd"
                          refine ix_L (lst_of ht6) (by rfl) ?_
                          walk_at "rd"
                          exact ⟨_, _, _, _, _, Pa, _, _, _, rfl, hS6, hRs6, hAc6, hne, hPn, hAT2, by omega, hal2, by omega, hF⟩
        · obtain ⟨rs, acc, bg, lst, ho, Pa, y4, y6, y12, rfl, hSH, hRs, hAc, hne, hPn, hAT, hrl, hal, hfl, hF⟩ := hV
          have e0 : (qs.map (ofA age)).drop (Int.toNat (qs.length : Int)) = [] := List.drop_eq_nil_of_le (by rw [hpn]; omega)
          rw [e0] at hF
          exact after rs bg _ _ _ _ _ _ H' hSH hRs hF
end
end My

set_option Elab.async false
set_option linter.all false
set_option maxRecDepth 100000
set_option maxHeartbeats 1000000
namespace My
open PySem PySem.Spec PyProof.Rows L2
local macro_rules | `(tactic| walk_at "len") => `(tactic| first | assumption | omega | decide | (simp only [List.length_append, List.length_take, List.length_drop, List.length_cons, List.length_nil, List.length_replicate]; omega))
local macro_rules | `(tactic| walk_at "side") => `(tactic| first | assumption | exact Nat.zero_le _ | decide | omega)
local macro_rules | `(tactic| walk_at "rd1") => `(tactic| first
  | with_reducible refine s_seq ?_
  | with_reducible refine x_gsub ?_
  | with_reducible refine s_asg ?_
  | ((with_reducible refine s_gn ?_); dsimp only [List.set])
  | ((with_reducible refine x_var (v := ?rdv) ?rdhv ?_); (case rdhv => rfl))
  | with_reducible refine x_c ?_
  | with_reducible refine x_op ?_
  | with_reducible refine x_cons ?_
  | with_reducible refine x_nil ?_
  | with_reducible refine x_cb ?_
  | with_reducible refine x_call ?_
  | with_reducible refine s_if ?_
  | with_reducible refine s_ret ?_
  | with_reducible refine s_retN ?_
  | with_reducible refine s_next ?_
  | with_reducible refine s_brk ?_
  | with_reducible refine s_cont ?_
  | with_reducible refine s_drop ?_
  | with_reducible refine s_par ?_
  | with_reducible refine s_par3 ?_
  | ((with_reducible refine s_p2 ?_); dsimp only [List.set])
  | ((with_reducible refine s_p3 ?_); dsimp only [List.set])
  | with_reducible refine f_r1 ?_
  | with_reducible refine f_r2 ?_
  | with_reducible refine f_l ?_
  | with_reducible refine f_t ?_
  | with_reducible refine f_s ?_
  | with_reducible refine c_r1 ?_
  | with_reducible refine c_r2 ?_
  | with_reducible refine c_l ?_
  | with_reducible refine c_t ?_
  | with_reducible refine c_s ?_
  | with_reducible refine x_tst ?_
  | with_reducible refine x_tru ?_
  | with_reducible refine x_truB ?_
  | with_reducible refine x_bl2 ?_
  | with_reducible refine x_int ?_
  | with_reducible refine x_str ?_
  | with_reducible refine x_not ?_
  | with_reducible refine x_and ?_
  | with_reducible refine x_or ?_
  | with_reducible refine x_andV ?_
  | with_reducible refine x_orV ?_
  | with_reducible refine x_notV ?_
  | with_reducible refine x_if ?_
  | with_reducible refine x_yes ?_
  | with_reducible refine x_un ?_
  | with_reducible refine x_tup ?_
  | with_reducible refine x_lst ?_
  | with_reducible refine x_callK ?_
  | with_reducible refine x_callK0 ?_
  | with_reducible refine x_bm ?_
  | with_reducible refine x_bm0 ?_
  | with_reducible refine x_tyS ?_
  | with_reducible refine x_sl ?_
  | with_reducible refine x_nopart ?_
  | with_reducible refine x_part ?_
  | with_reducible refine x_fmt0 ?_
  | with_reducible refine x_gc ?_
  | with_reducible refine x_gz ?_
  | with_reducible refine x_ckw ?_
  | with_reducible refine x_fmt ?_
  | with_reducible refine x_chain ?_
  | with_reducible refine a_ii ?_
  | ((with_reducible refine sl_to ?rda ?rdb ?_); (case rda => walk_at "len"); (case rdb => walk_at "len"))
  | ((with_reducible refine sl_from ?rda ?rdb ?_); (case rda => walk_at "len"); (case rdb => walk_at "len"))
  | ((with_reducible refine sl_mid ?rda ?rdb ?rdc ?_); (case rda => walk_at "len"); (case rdb => walk_at "len"); (case rdc => walk_at "len"))
  | ((with_reducible refine a_SS ?rda ?_); (case rda => walk_at "len"))
  | ((with_reducible refine ln_S ?rda ?_); (case rda => walk_at "len"))
  | with_reducible refine e_SS ?_
  | with_reducible refine ne_SS ?_
  | with_reducible refine s_ii ?_
  | ((with_reducible refine md_ii ?rdc ?_); (case rdc => first | decide | assumption | omega))
  | with_reducible refine n_i ?_
  | with_reducible refine e_ii ?_
  | with_reducible refine e_bb ?_
  | with_reducible refine ne_ii ?_
  | with_reducible refine ne_bb ?_
  | with_reducible refine lt_ii ?_
  | with_reducible refine lt_ss ?_
  | with_reducible refine le_ii ?_
  | with_reducible refine gt_ii ?_
  | with_reducible refine gt_ss ?_
  | with_reducible refine ge_ii ?_
  | with_reducible refine e_ss ?_
  | with_reducible refine ne_ss ?_
  | with_reducible refine is_N ?_
  | with_reducible refine is_T ?_
  | with_reducible refine is_B ?_
  | with_reducible refine isn_N ?_
  | with_reducible refine isn_T ?_
  | with_reducible refine isn_B ?_
  | with_reducible refine in_s ?_
  | with_reducible refine nin_s ?_
  | with_reducible refine i_i ?_
  | with_reducible refine i_b ?_
  | with_reducible refine ab_i ?_
  | with_reducible refine mx_ii ?_
  | with_reducible refine mn_ii ?_
  | with_reducible refine ty_N ?_
  | with_reducible refine ty_B ?_
  | with_reducible refine ty_I ?_
  | with_reducible refine ty_S ?_
  | with_reducible refine ma_s ?_
  | with_reducible refine mp_s ?_
  | with_reducible refine mdg_s ?_
  | with_reducible refine mf_s ?_
  | with_reducible refine iteT ?_
  | with_reducible refine iteF ?_
  | with_reducible refine iteNt ?_
  | with_reducible refine iteNf ?_
  | with_reducible refine iteTd (by decide) ?_
  | with_reducible refine iteFd (by decide) ?_
  | with_reducible refine iteNd (by decide) ?_
  | with_reducible refine iteNdF (by decide) ?_
  | ((with_reducible refine iteFd ?rdn ?_); (case rdn => (intro rdz; cases rdz; done)))
  | ((with_reducible refine iteNdF ?rdn ?_); (case rdn => (intro rdz; cases rdz; done))))
local macro_rules | `(tactic| walk_at "rd") => `(tactic| (repeat walk_at "rd1"))
section
variable {P : Program} {w : World} {K : PySem.W.Frag} {mg : Str → Option Value} {base : Heap}
theorem SprAt.same {H H' : Hp} {s g : Addr} (h : SprAt H s g) (e : Same H H') : SprAt H' s g := by
  obtain ⟨gr, m, c, h1, h2, h3⟩ := h
  exact ⟨gr, m, c, e _ _ h1, e _ _ h2, h3⟩
theorem Frm.of {s g : Addr} {H H' : Hp} (e : Same H H') : Frm s g H H' := fun a o _ _ h => e a o h
theorem Frm.mut {s g B : Addr} {H H' : Hp} {o : HO} (a : Frm s g H H') (hB : H B = none) : Frm s g H (upd H' B o) := fun x u h1 h2 e => by
  rw [upd_ne (ne_of_none e hB)]
  exact a x u h1 h2 e
def RngAll (lo hi : Int) (xs : List V) : Prop := ∀ x ∈ xs, ∃ i : Int, lo ≤ i ∧ i ≤ hi ∧ x = V.int i
theorem rng_nil {lo hi : Int} : RngAll lo hi [] := fun _ h => by cases h
theorem rng_cons {lo hi i : Int} {xs : List V} (h0 : lo ≤ i) (h1 : i ≤ hi) (h : RngAll lo hi xs) : RngAll lo hi (.int i :: xs) := fun x hx => by
  rcases List.mem_cons.mp hx with rfl | hx
  · exact ⟨i, h0, h1, rfl⟩
  · exact h x hx
theorem ix_rng {H : Hp} {Q : VK} {p : Addr} {zs : List V} {lo hi : Int} {i : Int} (hp : SqL K H p zs) (ha : RngAll lo hi zs) (h0 : 0 ≤ i) (h1 : i < (zs.length : Int)) (q : ∀ z : Int, lo ≤ z → z ≤ hi → Q (.int z) H) : rIX K (.ref p) (.int i) H Q := by
  refine ix_L hp (at_in h0 h1) ?_
  have hi : i.toNat < zs.length := by omega
  obtain ⟨z, a, b, e⟩ := ha zs[i.toNat] (List.getElem_mem hi)
  rw [e]
  exact q z a b
/-! an area of blocks -/
def sp__law_area (K : PySem.W.Frag) : Sp := fun vs H Q _ => ∃ (s g : Addr) (sg age cnt : Nat), vs = [.ref s, .int sg, .int age, .int cnt] ∧ SprAt H s g ∧ 100 ≤ sg ∧ sg ≤ 1000 ∧ age < 1000000 ∧ 1 ≤ cnt ∧ cnt ≤ 197 ∧ ∀ p H' ls, SprAt H' s g → Frm s g H H' → H p = none → H' p = some (.lst (tv ls)) → ls.length = cnt → Blk sg ls → Q (.ref p) H'
theorem ok__law_area (Y : Fx K mg) : FnOk P w K mg base CX0 3 Y.a__law_area Y.fd__law_area ["_law_spring_here", "_law_signs", "_law_age", "_law_count"] (sp__law_area K) := by
  refine Y.F__law_area.ok sc__law_area (fun vs H Q E h => ?_) (fun cdv A outer st H vs Q E hr h => ?_)
  · obtain ⟨s, g, sg, age, cnt, rfl, _⟩ := h
    rfl
  · obtain ⟨s, g, sg, age, cnt, rfl, hSp, hs0, hs1, hag, hc0, hc1, q⟩ := h
    refine ⟨_, b__law_area Y (ok__law_drop Y) (ok__law_parts Y) (ok__law_piece Y) (ok__law_text Y) hr, ?_⟩
    show t__law_area K _ _ _ _ _ [some (.ref s), some (.int sg), some (.int age), some (.int cnt), none, none, none, none, none, none, none] H
    unfold t__law_area
    rw [show ("+." : Str) = S [43, 46] from rfl]
    walk_at "rd"
    refine ⟨Nat.zero_le _, fun B hB => ?_⟩
    walk_at "rd"
    refine ⟨s, g, 3, rfl, hSp.new hB, by decide, by decide, fun r H1 r0 r1 hSp1 hF1 => ?_⟩
    obtain ⟨o1, o2⟩ := hSp.off hB
    have hB1 := hF1 B _ o1 o2 upd_same
    have hF01 := ((Frm.refl H).new hB).trans hF1
    obtain ⟨w0, rfl⟩ : ∃ w0 : Nat, r = (w0 : Int) := ⟨r.toNat, by omega⟩
    walk_at "rd"
    refine w_while (fun k σ H' => ∃ (ls : List (List Nat)) (wr : Nat) (y6 y7 y8 y9 y10 : Option V), σ = [some (.ref s), some (.int sg), some (.int age), some (.int cnt), some (.ref B), some (.int wr), y6, y7, y8, y9, y10] ∧ SprAt H' s g ∧ Frm s g H H' ∧ H' B = some (.lst (tv ls)) ∧ Blk sg ls ∧ ls.length ≤ 20000 ∧ wr ≤ 2 + 9 * ls.length ∧ k = cnt - ls.length) _
      ⟨[], w0, _, _, _, _, _, rfl, hSp1, hF01, hB1, (fun _ h => by cases h), Nat.zero_le _, by omega, rfl⟩ (fun k σ H' hW => ?_)
    obtain ⟨ls, wr, y6, y7, y8, y9, y10, rfl, hSp', hF', hB', hbl, hll, hwr, rfl⟩ := hW
    walk_at "rd"
    refine ln_l (lst_of hB') ?_
    rw [tv_len]
    walk_at "rd"
    refine ite2' (fun e => ?_) (fun e => ?_)
    · have hlt : ls.length < cnt := by have := of_decide_eq_true e; omega
      refine ⟨fun σ' H'' => ∃ k', k' < cnt - ls.length ∧ ∃ (ls : List (List Nat)) (wr : Nat) (y6 y7 y8 y9 y10 : Option V), σ' = [some (.ref s), some (.int sg), some (.int age), some (.int cnt), some (.ref B), some (.int wr), y6, y7, y8, y9, y10] ∧ SprAt H'' s g ∧ Frm s g H H'' ∧ H'' B = some (.lst (tv ls)) ∧ Blk sg ls ∧ ls.length ≤ 20000 ∧ wr ≤ 2 + 9 * ls.length ∧ k' = cnt - ls.length, fun _ _ h => h, ?_⟩
      walk_at "rd"
      refine m_ii (.inl (.inl ⟨by omega, by omega⟩)) ?_
      walk_at "rd"
      refine m_ii (.inl (.inl ⟨by omega, by omega⟩)) ?_
      walk_at "rd"
      refine ⟨by show 6 ≤ sizeLine; decide, fun p1 hp1 => ?_⟩
      walk_at "rd"
      refine ⟨s, g, 6, rfl, hSp'.new hp1, by decide, by decide, fun r2 H2 r20 r21 hSp2 hF2 => ?_⟩
      obtain ⟨u1, u2⟩ := hSp'.off hp1
      have hF12 := (hF'.new hp1).trans hF2
      have hB2 := hF2 B _ o1 o2 (same_upd hp1 _ _ hB')
      refine ix_rng (lo := 0) (hi := 3000) (lst_of (hF2 p1 _ u1 u2 upd_same)) (rng_cons (by decide) (by decide) (rng_cons (by decide) (by decide) (rng_cons (by decide) (by decide) (rng_cons (by omega) (by omega) (rng_cons (by omega) (by omega) (rng_cons (by omega) (by omega) rng_nil)))))) r20 r21 fun z hz0 hz1 => ?_
      walk_at "rd"
      refine ⟨s, g, 3, rfl, hSp2, by decide, by decide, fun r3 H3 r30 r31 hSp3 hF3 => ?_⟩
      have hF13 := hF12.trans hF3
      have hB3 := hF3 B _ o1 o2 hB2
      walk_at "rd"
      obtain ⟨n, hn⟩ : ∃ n : Nat, z + r3 = (n : Int) := ⟨(z + r3).toNat, by omega⟩
      rw [hn]
      refine ⟨s, g, n, rfl, hSp3, by omega, fun l H4 hll4 hlT hSp4 hF4 => ?_⟩
      have hF14 := hF13.trans hF4
      have hB4 := hF4 B _ o1 o2 hB3
      walk_at "rd"
      refine ⟨l, sg, rfl, by omega, hlT, by omega, by omega, fun p2 H5 ps hS5 hp2 hps h1 hle hpb => ?_⟩
      have hSp5 := hSp4.same hS5
      have hF15 := hF14.trans (Frm.of hS5)
      have hB5 := hS5 _ _ hB4
      have hp2B : p2 ≠ B := ne_new hB4 hp2
      have hp2s : p2 ≠ s ∧ p2 ≠ g := hSp4.off hp2
      clear hSp1 hF1 hB1 hF01 hSp2 hF2 hF12 hB2 hSp3 hF3 hF13 hB3 hF4 hF14 hB4 hS5 hSp4
      walk_at "rd"
      refine ln_l (lst_of hps) ?_
      rw [tv_len]
      walk_at "rd"
      refine for1_mk (by omega) (by omega) (fun j σ H' => ∃ (ls' : List (List Nat)) (y9 y10 : Option V), σ = [some (.ref s), some (.int sg), some (.int age), some (.int cnt), some (.ref B), some (.int wr), some (.int ((sg : Int) - 19)), some (.int n), some (.ref p2), y9, y10] ∧ SprAt H' s g ∧ Frm s g H H' ∧ H' B = some (.lst (tv ls')) ∧ H' p2 = some (.lst (tv ps)) ∧ Blk sg ls' ∧ ls'.length = ls.length + j)
        ⟨ls, _, _, rfl, hSp5, hF15, hB5, hps, hbl, rfl⟩ (fun j σ H6 hj hV => ?_) (fun σ H6 hV => ?_)
      · obtain ⟨ls', y9, y10, rfl, hSp6, hF6, hB6, hps6, hbl6, hl6⟩ := hV
        have hj' : j < ps.length := by omega
        obtain ⟨hpT, hpl⟩ := hpb _ (List.getElem_mem hj')
        have hpg : (tv ps)[j]? = some (.str (S ps[j])) := by
          unfold tv
          rw [List.getElem?_map, List.getElem?_eq_getElem hj']
          rfl
        generalize ps[j] = pt at hpT hpl hpg
        walk_at "rd"
        refine ln_l (lst_of hps6) ?_
        rw [tv_len]
        walk_at "rd"
        refine ix_SS (by split <;> decide) (by split <;> decide) (by decide) fun c hcc => ?_
        have hcT : isT [c] = true := isT_get (by decide) hcc
        walk_at "rd"
        refine x_tyL (lst_of hB6) ?_
        walk_at "rd"
        refine ln_l (lst_of hB6) ?_
        rw [tv_len]
        walk_at "rd"
        refine ix_L (lst_of hps6) (atI_nat hpg) ?_
        walk_at "rd"
        refine ⟨age, ls'.length, wr, [c], pt, rfl, hag, by omega, by omega, by rw [List.length_singleton]; decide, hcT, by omega, hpT, fun l' H7 hl7 hT7 hS7 => ?_⟩
        have hB7 := hS7 _ _ hB6
        walk_at "rd"
        refine ap_L hB7 (by rw [tv_len]; omega) ?_
        rw [show tv ls' ++ [V.str (S l')] = tv (ls' ++ [l']) by rw [tv_app]; rfl]
        refine ⟨ls' ++ [l'], _, _, rfl, (hSp6.same hS7).keep o1 o2, (hF6.trans (Frm.of hS7)).mut hB, upd_same, ?_, ?_, ?_⟩
        · rw [upd_ne hp2B]
          exact hS7 _ _ hps6
        · intro x hx
          rcases List.mem_append.mp hx with h | h
          · exact hbl6 x h
          · rw [List.mem_singleton.mp h]
            refine ⟨hT7, ?_⟩
            rw [hl7]
            show 18 + 1 + pt.length ≤ sg
            omega
        · rw [List.length_append, hl6]
          rfl
      · obtain ⟨ls', y9, y10, rfl, hSp6, hF6, hB6, hps6, hbl6, hl6⟩ := hV
        rw [Int.toNat_natCast] at hl6
        walk_at "rd"
        refine ⟨s, g, 9, rfl, hSp6, by decide, by decide, fun r4 H7 r40 r41 hSp7 hF7 => ?_⟩
        walk_at "rd"
        refine ⟨by show 8 ≤ sizeLine; decide, fun p3 hp3 => ?_⟩
        walk_at "rd"
        refine ⟨s, g, 8, rfl, hSp7.new hp3, by decide, by decide, fun r5 H8 r50 r51 hSp8 hF8 => ?_⟩
        obtain ⟨v1, v2⟩ := hSp7.off hp3
        refine ix_rng (lo := -1) (hi := 9) (lst_of (hF8 p3 _ v1 v2 upd_same)) (rng_cons (by decide) (by decide) (rng_cons (by decide) (by decide) (rng_cons (by decide) (by decide) (rng_cons (by decide) (by decide) (rng_cons (by decide) (by decide) (rng_cons (by decide) (by decide) (rng_cons (by omega) (by omega) (rng_cons (by decide) (by decide) rng_nil)))))))) r50 r51 fun z2 hz20 hz21 => ?_
        walk_at "rd"
        have hb : 0 ≤ (if (wr : Int) + z2 > 0 then (wr : Int) + z2 else 0) ∧ (if (wr : Int) + z2 > 0 then (wr : Int) + z2 else 0) ≤ wr + 9 := by
          split <;> omega
        generalize (if (wr : Int) + z2 > 0 then (wr : Int) + z2 else 0) = e2 at hb
        obtain ⟨w2, rfl⟩ : ∃ w2 : Nat, e2 = (w2 : Int) := ⟨e2.toNat, by omega⟩
        exact ⟨cnt - ls'.length, by omega, ls', w2, _, _, _, _, _, rfl, hSp8, ((hF6.trans hF7).new hp3).trans hF8, hF8 B _ o1 o2 (same_upd hp3 _ _ (hF7 B _ o1 o2 hB6)), hbl6, by omega, by omega, rfl⟩
    · have hge : cnt ≤ ls.length := by have := of_decide_eq_false e; omega
      walk_at "rd"
      refine sl_L (lst_of hB') fun p hp => ?_
      rw [cutV_to, show (tv ls).take cnt = tv (ls.take cnt) by unfold tv; rw [List.map_take]]
      refine q p _ (ls.take cnt) (hSp'.new hp) (hF'.new hp) ?_ upd_same ?_ ?_
      · have hpS : H p = none := by
          cases hh : H p with
          | none => rfl
          | some o =>
            have : p ≠ s ∧ p ≠ g := hSp'.off hp
            have := hF' p o this.1 this.2 hh
            rw [hp] at this
            cases this
        exact hpS
      · rw [List.length_take]
        omega
      · exact fun x hx => hbl x (List.mem_of_mem_take hx)
end
end My

set_option Elab.async false
set_option linter.all false
set_option maxRecDepth 100000
set_option maxHeartbeats 1000000
namespace My
open PySem PySem.Spec PyProof.Rows L2
local macro_rules | `(tactic| walk_at "len") => `(tactic| first | assumption | omega | decide | (simp only [List.length_append, List.length_take, List.length_drop, List.length_cons, List.length_nil, List.length_replicate]; omega))
local macro_rules | `(tactic| walk_at "side") => `(tactic| first | assumption | exact Nat.zero_le _ | decide | omega)
local macro_rules | `(tactic| walk_at "rd1") => `(tactic| first
  | with_reducible refine s_seq ?_
  | with_reducible refine x_gsub ?_
  | with_reducible refine s_asg ?_
  | ((with_reducible refine s_gn ?_); dsimp only [List.set])
  | ((with_reducible refine x_var (v := ?rdv) ?rdhv ?_); (case rdhv => rfl))
  | with_reducible refine x_c ?_
  | with_reducible refine x_op ?_
  | with_reducible refine x_cons ?_
  | with_reducible refine x_nil ?_
  | with_reducible refine x_cb ?_
  | with_reducible refine x_call ?_
  | with_reducible refine s_if ?_
  | with_reducible refine s_ret ?_
  | with_reducible refine s_retN ?_
  | with_reducible refine s_next ?_
  | with_reducible refine s_brk ?_
  | with_reducible refine s_cont ?_
  | with_reducible refine s_drop ?_
  | with_reducible refine s_par ?_
  | with_reducible refine s_par3 ?_
  | ((with_reducible refine s_p2 ?_); dsimp only [List.set])
  | ((with_reducible refine s_p3 ?_); dsimp only [List.set])
  | with_reducible refine f_r1 ?_
  | with_reducible refine f_r2 ?_
  | with_reducible refine f_l ?_
  | with_reducible refine f_t ?_
  | with_reducible refine f_s ?_
  | with_reducible refine c_r1 ?_
  | with_reducible refine c_r2 ?_
  | with_reducible refine c_l ?_
  | with_reducible refine c_t ?_
  | with_reducible refine c_s ?_
  | with_reducible refine x_tst ?_
  | with_reducible refine x_tru ?_
  | with_reducible refine x_truB ?_
  | with_reducible refine x_bl2 ?_
  | with_reducible refine x_int ?_
  | with_reducible refine x_str ?_
  | with_reducible refine x_not ?_
  | with_reducible refine x_and ?_
  | with_reducible refine x_or ?_
  | with_reducible refine x_andV ?_
  | with_reducible refine x_orV ?_
  | with_reducible refine x_notV ?_
  | with_reducible refine x_if ?_
  | with_reducible refine x_yes ?_
  | with_reducible refine x_un ?_
  | with_reducible refine x_tup ?_
  | with_reducible refine x_lst ?_
  | with_reducible refine x_callK ?_
  | with_reducible refine x_callK0 ?_
  | with_reducible refine x_bm ?_
  | with_reducible refine x_bm0 ?_
  | with_reducible refine x_tyS ?_
  | with_reducible refine x_sl ?_
  | with_reducible refine x_nopart ?_
  | with_reducible refine x_part ?_
  | with_reducible refine x_fmt0 ?_
  | with_reducible refine x_gc ?_
  | with_reducible refine x_gz ?_
  | with_reducible refine x_ckw ?_
  | with_reducible refine x_fmt ?_
  | with_reducible refine x_chain ?_
  | with_reducible refine a_ii ?_
  | ((with_reducible refine sl_to ?rda ?rdb ?_); (case rda => walk_at "len"); (case rdb => walk_at "len"))
  | ((with_reducible refine sl_from ?rda ?rdb ?_); (case rda => walk_at "len"); (case rdb => walk_at "len"))
  | ((with_reducible refine sl_mid ?rda ?rdb ?rdc ?_); (case rda => walk_at "len"); (case rdb => walk_at "len"); (case rdc => walk_at "len"))
  | ((with_reducible refine a_SS ?rda ?_); (case rda => walk_at "len"))
  | ((with_reducible refine ln_S ?rda ?_); (case rda => walk_at "len"))
  | with_reducible refine e_SS ?_
  | with_reducible refine ne_SS ?_
  | with_reducible refine s_ii ?_
  | ((with_reducible refine md_ii ?rdc ?_); (case rdc => first | decide | assumption | omega))
  | with_reducible refine n_i ?_
  | with_reducible refine e_ii ?_
  | with_reducible refine e_bb ?_
  | with_reducible refine ne_ii ?_
  | with_reducible refine ne_bb ?_
  | with_reducible refine lt_ii ?_
  | with_reducible refine lt_ss ?_
  | with_reducible refine le_ii ?_
  | with_reducible refine gt_ii ?_
  | with_reducible refine gt_ss ?_
  | with_reducible refine ge_ii ?_
  | with_reducible refine e_ss ?_
  | with_reducible refine ne_ss ?_
  | with_reducible refine is_N ?_
  | with_reducible refine is_T ?_
  | with_reducible refine is_B ?_
  | with_reducible refine isn_N ?_
  | with_reducible refine isn_T ?_
  | with_reducible refine isn_B ?_
  | with_reducible refine in_s ?_
  | with_reducible refine nin_s ?_
  | with_reducible refine i_i ?_
  | with_reducible refine i_b ?_
  | with_reducible refine ab_i ?_
  | with_reducible refine mx_ii ?_
  | with_reducible refine mn_ii ?_
  | with_reducible refine ty_N ?_
  | with_reducible refine ty_B ?_
  | with_reducible refine ty_I ?_
  | with_reducible refine ty_S ?_
  | with_reducible refine ma_s ?_
  | with_reducible refine mp_s ?_
  | with_reducible refine mdg_s ?_
  | with_reducible refine mf_s ?_
  | with_reducible refine iteT ?_
  | with_reducible refine iteF ?_
  | with_reducible refine iteNt ?_
  | with_reducible refine iteNf ?_
  | with_reducible refine iteTd (by decide) ?_
  | with_reducible refine iteFd (by decide) ?_
  | with_reducible refine iteNd (by decide) ?_
  | with_reducible refine iteNdF (by decide) ?_
  | ((with_reducible refine iteFd ?rdn ?_); (case rdn => (intro rdz; cases rdz; done)))
  | ((with_reducible refine iteNdF ?rdn ?_); (case rdn => (intro rdz; cases rdz; done))))
local macro_rules | `(tactic| walk_at "rd") => `(tactic| (repeat walk_at "rd1"))
section
variable {P : Program} {w : World} {K : PySem.W.Frag} {mg : Str → Option Value} {base : Heap}
theorem rep1 (k c : Nat) : (List.replicate k [c]).flatten = List.replicate k c := by
  induction k with
  | zero => rfl
  | succ k ih => rw [List.replicate_succ, List.flatten_cons, ih]; rfl
theorem rep1_isT {k c : Nat} (h : isT [c] = true) : isT (List.replicate k c) = true := isT_of fun x hx => by
  rw [(List.mem_replicate.mp hx).2]
  exact isT_mem h (List.mem_singleton.mpr rfl)
theorem flat6 : ∀ {cs : List (List Nat)}, (∀ c ∈ cs, c.length = 6) → cs.flatten.length = 6 * cs.length
  | [], _ => rfl
  | c :: cs, h => by
    rw [List.flatten_cons, List.length_append, h c (List.mem_cons_self ..), flat6 fun d hd => h d (List.mem_cons_of_mem _ hd), List.length_cons]
    omega
theorem rdP_D {l : List Nat} {x : Nat × Pc} (h : rdP l = some x) : 19 ≤ l.length ∧ isD (l.take 6) = true ∧ isD ((l.take 12).drop 6) = true ∧ isD ((l.take 18).drop 12) = true := by
  unfold rdP at h
  split at h
  · rename_i h0
    have na : ∀ a k v, numAt l a k = some v → isD ((l.take (a + k)).drop a) = true := fun a k v e => by
      unfold numAt at e
      split at e
      · rename_i h1
        exact h1.2.2
      · cases e
    cases e1 : numAt l 0 6 with
    | none => rw [e1] at h; cases h
    | some a =>
      cases e2 : numAt l 6 6 with
      | none => rw [e1, e2] at h; cases h
      | some b =>
        cases e3 : numAt l 12 6 with
        | none => rw [e1, e2, e3] at h; cases h
        | some c => exact ⟨h0.1, by have := na 0 6 a e1; rw [List.drop_zero] at this; exact this, na 6 6 b e2, na 12 6 c e3⟩
  · cases h
def SpI (s g : Addr) (H : Hp) (l : List Nat) (sg : Nat) (way : Int) (σ : L2.St) (H' : Hp) : Prop :=
  ∃ (la ln lw lg lp : List Nat) (st : Int) (y10 y11 y12 : Option V), σ = [some (.ref s), some (.str (S l)), some (.int sg), some (.str (S la)), some (.str (S ln)), some (.str (S lw)), some (.str (S lg)), some (.str (S lp)), some (.int way), some (.int st), y10, y11, y12] ∧
    SprAt H' s g ∧ Frm s g H H' ∧ (isT la = true ∧ isT ln = true ∧ isT lw = true ∧ isT lg = true ∧ isT lp = true) ∧ la.length ≤ 6 ∧ ln.length ≤ 6 ∧ lw.length ≤ 6 ∧ lg.length ≤ 1 ∧ lp.length ≤ sg - 19
def sp__law_spoilt (K : PySem.W.Frag) : Sp := fun vs H Q _ => ∃ (s g : Addr) (l : List Nat) (sg : Nat), vs = [.ref s, .str (S l), .int sg] ∧ SprAt H s g ∧ 100 ≤ sg ∧ sg ≤ 1000 ∧ isT l = true ∧ l.length ≤ sg ∧ ∀ l' H', l'.length ≤ sg → isT l' = true → SprAt H' s g → Frm s g H H' → Q (.str (S l')) H'
theorem ok__law_spoilt (Y : Fx K mg) : FnOk P w K mg base CX0 3 Y.a__law_spoilt Y.fd__law_spoilt ["_law_spring_here", "_law_block", "_law_signs"] (sp__law_spoilt K) := by
  refine Y.F__law_spoilt.ok sc__law_spoilt (fun vs H Q E h => ?_) (fun cdv A outer st H vs Q E hr h => ?_)
  · obtain ⟨s, g, l, sg, rfl, _⟩ := h
    rfl
  · obtain ⟨s, g, l, sg, rfl, hSp, hs0, hs1, hT, hl, q⟩ := h
    refine ⟨_, b__law_spoilt Y (ok__law_drop Y) (ok__law_read Y) (ok__law_six Y) (ok__law_text Y) hr, ?_⟩
    show t__law_spoilt K _ _ _ _ _ [some (.ref s), some (.str (S l)), some (.int sg), none, none, none, none, none, none, none, none, none, none] H
    unfold t__law_spoilt
    rw [show ("x" : Str) = S [120] from rfl, show ("y" : Str) = S [121] from rfl, show ("H" : Str) = S [72] from rfl, show ("+" : Str) = S [43] from rfl, show ("." : Str) = S [46] from rfl, show ("-*,/0 " : Str) = S [45, 42, 44, 47, 48, 32] from rfl, show (" +-_x/:" : Str) = S [32, 43, 45, 95, 120, 47, 58] from rfl]
    have t1 := fun n => isT_take n hT
    have t2 := fun n => isT_drop n hT
    walk_at "rd"
    refine ⟨by show 5 ≤ sizeLine; decide, fun p hp => ?_⟩
    refine gt_T (tup_of upd_same) rfl ?_
    have hSp0 := hSp.new hp (o := .tup [.str (S (l.take (Int.toNat 6))), .str (S ((l.take (Int.toNat 12)).drop (Int.toNat 6))), .str (S ((l.take (Int.toNat 18)).drop (Int.toNat 12))), .str (S ((l.take (Int.toNat 19)).drop (Int.toNat 18))), .str (S (l.drop (Int.toNat 19)))])
    have hF0 := (Frm.refl (s := s) (g := g) H).new hp (o := .tup [.str (S (l.take (Int.toNat 6))), .str (S ((l.take (Int.toNat 12)).drop (Int.toNat 6))), .str (S ((l.take (Int.toNat 18)).drop (Int.toNat 12))), .str (S ((l.take (Int.toNat 19)).drop (Int.toNat 18))), .str (S (l.drop (Int.toNat 19)))])
    generalize upd H p (.tup [.str (S (l.take (Int.toNat 6))), .str (S ((l.take (Int.toNat 12)).drop (Int.toNat 6))), .str (S ((l.take (Int.toNat 18)).drop (Int.toNat 12))), .str (S ((l.take (Int.toNat 19)).drop (Int.toNat 18))), .str (S (l.drop (Int.toNat 19)))]) = H0 at hSp0 hF0
    walk_at "rd"
    refine ⟨s, g, 12, rfl, hSp0, by decide, by decide, fun way H1 w0 w1 hSp1 hF1 => ?_⟩
    walk_at "rd"
    refine ⟨s, g, 30, rfl, hSp1, by decide, by decide, fun r2 H2 r20 r21 hSp2 hF2 => ?_⟩
    walk_at "rd"
    refine ⟨by show 3 ≤ sizeLine; decide, fun p1 hp1 => ?_⟩
    walk_at "rd"
    refine ⟨s, g, 3, rfl, hSp2.new hp1, by decide, by decide, fun r3 H3 r30 r31 hSp3 hF3 => ?_⟩
    obtain ⟨u1, u2⟩ := hSp2.off hp1
    have hF03 := (((hF0.trans hF1).trans hF2).new hp1).trans hF3
    refine ix_rng (lo := -1) (hi := 30) (lst_of (hF3 p1 _ u1 u2 upd_same)) (rng_cons (by decide) (by decide) (rng_cons (by decide) (by decide) (rng_cons (by omega) (by omega) rng_nil))) r30 r31 fun stp _ _ => ?_
    clear hSp0 hF0 hSp1 hF1 hSp2 hF2 hF3 hSp
    walk_at "rd"
    refine s_cut (SpI s g H l sg way) ?_ ?_
    · have here : ∀ H', SprAt H' s g → Frm s g H H' → SpI s g H l sg way [some (.ref s), some (.str (S l)), some (.int sg), some (.str (S (l.take (Int.toNat 6)))), some (.str (S ((l.take (Int.toNat 12)).drop (Int.toNat 6)))), some (.str (S ((l.take (Int.toNat 18)).drop (Int.toNat 12)))), some (.str (S ((l.take (Int.toNat 19)).drop (Int.toNat 18)))), some (.str (S (l.drop (Int.toNat 19)))), some (.int way), some (.int stp), none, none, none] H' := by
        intro H' a b
        refine ⟨_, _, _, _, _, _, _, _, _, rfl, a, b, ⟨t1 _, isT_drop _ (t1 _), isT_drop _ (t1 _), isT_drop _ (t1 _), t2 _⟩, ?_, ?_, ?_, ?_, ?_⟩
        · rw [List.length_take]; show min 6 _ ≤ 6; omega
        · rw [List.length_drop, List.length_take]; show min 12 _ - 6 ≤ 6; omega
        · rw [List.length_drop, List.length_take]; show min 18 _ - 12 ≤ 6; omega
        · rw [List.length_drop, List.length_take]; show min 19 _ - 18 ≤ 1; omega
        · rw [List.length_drop]; show l.length - 19 ≤ sg - 19; omega
      walk_at "rd"
      refine ite2' (fun e => ?_) (fun e => ?_)
      · have hw3 : way < 3 := of_decide_eq_true e
        walk_at "rd"
        refine ⟨l, rfl, hT, by omega, fun v H4 hS4 hv => ?_⟩
        have hSp4 := hSp3.same hS4
        have hF4 := hF03.trans (Frm.of hS4)
        walk_at "rd"
        cases hrd : rdP l with
        | none =>
          rw [hrd] at hv
          cases (show v = .non from hv)
          rw [decide_eq_true rfl]
          walk_at "rd"
          exact here H4 hSp4 hF4
        | some x =>
          rw [hrd] at hv
          obtain ⟨t, rfl, _⟩ : ∃ t, v = .ref t ∧ True := by
            obtain ⟨a, n, w, m, l⟩ := x
            obtain ⟨t, e, _⟩ := hv
            exact ⟨t, e, trivial⟩
          obtain ⟨h19, d1, d2, d3⟩ := rdP_D hrd
          rw [decide_eq_false (show ¬ V.ref t = .non from fun z => by cases z)]
          walk_at "rd"
          have ne : ∀ {a b : Nat}, a < b → b ≤ 18 → (l.take b).drop a ≠ [] := fun {a b} h1 h2 z => by
            have := congrArg List.length z
            rw [List.length_drop, List.length_take, List.length_nil] at this
            omega
          have lx : ∀ a b : Nat, b ≤ 18 → ((l.take b).drop a).length ≤ 640 := fun a b h2 => by
            rw [List.length_drop, List.length_take]
            omega
          have n0 := ne (a := 0) (b := 6) (by decide) (by decide)
          have l0 := lx 0 6 (by decide)
          rw [List.drop_zero] at n0 l0
          refine i_s (SX.int_S (a := l.take 6) d1 n0 (by omega)) (by rw [S_len]; exact l0) ?_
          walk_at "rd"
          refine i_s (SX.int_S (a := (l.take 12).drop 6) d2 (ne (by decide) (by decide)) (Nat.le_trans (lx 6 12 (by decide)) (by decide))) (by rw [S_len]; exact lx 6 12 (by decide)) ?_
          walk_at "rd"
          refine i_s (SX.int_S (a := (l.take 18).drop 12) d3 (ne (by decide) (by decide)) (Nat.le_trans (lx 12 18 (by decide)) (by decide))) (by rw [S_len]; exact lx 12 18 (by decide)) ?_
          walk_at "rd"
          refine ⟨by show 3 ≤ sizeLine; decide, fun p5 hp5 => ?_⟩
          generalize (NumText.digitsVal (l.take 6) : Int) = i1
          generalize (NumText.digitsVal ((l.take 12).drop 6) : Int) = i2
          generalize (NumText.digitsVal ((l.take 18).drop 12) : Int) = i3
          have h5 : upd H4 p5 (.lst [V.int i1, V.int i2, V.int i3]) p5 = some (.lst ([i1, i2, i3].map V.int)) := upd_same
          have hS5 := same_upd hp5 (o := .lst [V.int i1, V.int i2, V.int i3])
          show (fun σ H' => _ : L2.St → Hp → Prop) _ (upd H4 p5 (.lst [V.int i1, V.int i2, V.int i3]))
          generalize hH5 : upd H4 p5 (.lst [V.int i1, V.int i2, V.int i3]) = H5 at h5 hS5
          have hwl : way.toNat < [i1, i2, i3].length := by show way.toNat < 3; omega
          walk_at "rd"
          refine ix_L (lst_of h5) (at_nat w0 (v := .int ([i1, i2, i3][way.toNat])) (by rw [List.getElem?_map, List.getElem?_eq_getElem hwl]; rfl)) ?_
          walk_at "rd"
          refine st_L h5 w0 (by rw [List.length_map]; show way < 3; exact hw3) ?_
          rw [← List.map_set]
          generalize hns : [i1, i2, i3].set way.toNat ([i1, i2, i3][way.toNat] + stp) = ns
          have hnl : ns.length = 3 := by rw [← hns, List.length_set]; rfl
          have hS6 := same_mut (o := .lst (ns.map V.int)) hS5 hp5
          have h6 : upd H5 p5 (.lst (ns.map V.int)) p5 = some (.lst (ns.map V.int)) := upd_same
          show tRet _ _ _ (upd H5 p5 (.lst (ns.map V.int)))
          generalize upd H5 p5 (.lst (ns.map V.int)) = H6 at hS6 h6
          walk_at "rd"
          refine lcL_mk (lst_of h6) (fun D i H' => Same H6 H' ∧ ∃ ts : List (List Nat), H' D = some (.lst (tv ts)) ∧ ts.length = i ∧ (∀ t ∈ ts, t.length = 6) ∧ ∀ t ∈ ts, isT t = true) (fun D hD => ⟨same_upd hD, [], upd_same, rfl, (fun _ h => by cases h), fun _ h => by cases h⟩) (fun D i H' hD _ hP => lst_of (hP.1 _ _ h6)) (fun D i x H' hD hx hP => ?_) (fun D H' hD hP => ?_)
          · obtain ⟨hS7, ts, hts, htl, ht6, htT⟩ := hP
            obtain ⟨z, hz, rfl⟩ := map_get hx
            have hi3 : i < 3 := by rw [← hnl]; exact (List.getElem?_eq_some_iff.mp hz).1
            refine ⟨rfl, ?_⟩
            walk_at "rd"
            refine ⟨z, rfl, fun z' hz' => ?_⟩
            refine ⟨_, hts, Nat.lt_of_le_of_lt (show (tv ts).length ≤ 3 by rw [tv_len]; omega) (by decide), same_mut hS7 hD, ts ++ [pad 6 z'], ?_, ?_, ?_, ?_⟩
            · rw [upd_same, tv_app]
              rfl
            · rw [List.length_append, htl]
              rfl
            · intro t ht
              rcases List.mem_append.mp ht with h | h
              · exact ht6 t h
              · rw [List.mem_singleton.mp h]
                exact pad_len hz'
            · intro t ht
              rcases List.mem_append.mp ht with h | h
              · exact htT t h
              · rw [List.mem_singleton.mp h]
                exact pad_isT hz'
          · obtain ⟨hS7, ts, hts, htl, ht6, htT⟩ := hP
            rw [List.length_map, hnl] at htl
            have hfl := flat6 ht6
            have hfT := isT_flat htT
            walk_at "rd"
            refine jn_0 (lst_of (by rw [← tv_eq]; exact hts)) (by omega) ?_
            generalize ts.flatten = hd at hfl hfT
            obtain ⟨la, ln, lw, lg, lp, st, y10, y11, y12, he, _, _, ⟨_, _, _, g1, g2⟩, _, _, _, g3, g4⟩ := here H4 hSp4 hF4
            have e6 : (S ((l.take (Int.toNat 19)).drop (Int.toNat 18))) = S lg := by
              injection he with _ he; injection he with _ he; injection he with _ he; injection he with _ he; injection he with _ he; injection he with _ he; injection he with he _
              injection he with he; injection he
            have e7 : (S (l.drop (Int.toNat 19))) = S lp := by
              injection he with _ he; injection he with _ he; injection he with _ he; injection he with _ he; injection he with _ he; injection he with _ he; injection he with _ he; injection he with he _
              injection he with he; injection he
            rw [e6, e7]
            walk_at "rd"
            refine q _ _ ?_ ?_ ((hSp4.same hS6).same hS7) ((hF4.trans (Frm.of hS6)).trans (Frm.of hS7))
            · rw [List.length_append, List.length_append]
              omega
            · rw [isT_app, isT_app, hfT, g1, g2]
              rfl
      · walk_at "rd"
        exact here H3 hSp3 hF03
    · clear hSp3 hF03
      rintro σ' H4 ⟨la, ln, lw, lg, lp, st, y10, y11, y12, rfl, hSp4, hF4, ⟨ta, tn, tw, tg, tp⟩, b1, b2, b3, b4, b5⟩
      refine s_cut (SpI s g H l sg way) ?_ ?_
      · walk_at "rd"
        refine ite2' (fun e => ?_) (fun e => ?_)
        · walk_at "rd"
          refine ⟨by show 2 ≤ sizeLine; decide, fun p1 hp1 => ?_⟩
          walk_at "rd"
          refine ix_txt (n := 1) (lst_of upd_same) (txt_cons (by decide) (by decide) (txt_cons (by decide) (by decide) txt_nil)) (by split <;> decide) (by split <;> (show (_ : Int) < 2; decide)) fun l' hl' hT' => ?_
          exact ⟨_, _, _, _, _, _, _, _, _, rfl, hSp4.new hp1, hF4.new hp1, ⟨ta, tn, tw, hT', tp⟩, b1, b2, b3, hl', b5⟩
        · walk_at "rd"
          exact ⟨_, _, _, _, _, _, _, _, _, rfl, hSp4, hF4, ⟨ta, tn, tw, tg, tp⟩, b1, b2, b3, b4, b5⟩
      clear ta tn tw tg tp b1 b2 b3 b4 b5 hF4 hSp4
      rintro σ' H4 ⟨la, ln, lw, lg, lp, st, y10, y11, y12, rfl, hSp4, hF4, ⟨ta, tn, tw, tg, tp⟩, b1, b2, b3, b4, b5⟩
      refine s_cut (SpI s g H l sg way) ?_ ?_
      · walk_at "rd"
        refine ite2' (fun e => ?_) (fun e => ?_)
        · walk_at "rd"
          refine sl_any (by omega) tp fun l' hl' hT' => ?_
          exact ⟨_, _, _, _, _, _, _, _, _, rfl, hSp4, hF4, ⟨ta, tn, tw, tg, hT'⟩, b1, b2, b3, b4, by omega⟩
        · walk_at "rd"
          exact ⟨_, _, _, _, _, _, _, _, _, rfl, hSp4, hF4, ⟨ta, tn, tw, tg, tp⟩, b1, b2, b3, b4, b5⟩
      clear ta tn tw tg tp b1 b2 b3 b4 b5 hF4 hSp4
      rintro σ' H4 ⟨la, ln, lw, lg, lp, st, y10, y11, y12, rfl, hSp4, hF4, ⟨ta, tn, tw, tg, tp⟩, b1, b2, b3, b4, b5⟩
      refine s_cut (SpI s g H l sg way) ?_ ?_
      · walk_at "rd"
        refine ite2' (fun e => ?_) (fun e => ?_)
        · walk_at "rd"
          refine m_SI (by omega) (by omega) (by rw [Int.toNat_natCast, List.length_singleton]; omega) ?_
          rw [rep1, Int.toNat_natCast]
          have r1 : (List.replicate sg 120).length = sg := List.length_replicate
          have r2 : isT (List.replicate sg 120) = true := rep1_isT (by decide)
          generalize List.replicate sg 120 = rp at r1 r2
          walk_at "rd"
          refine ⟨_, _, _, _, _, _, _, _, _, rfl, hSp4, hF4, ⟨ta, tn, tw, tg, isT_take _ (by rw [isT_app, tp, r2]; rfl)⟩, b1, b2, b3, b4, ?_⟩
          rw [List.length_take]
          omega
        · walk_at "rd"
          exact ⟨_, _, _, _, _, _, _, _, _, rfl, hSp4, hF4, ⟨ta, tn, tw, tg, tp⟩, b1, b2, b3, b4, b5⟩
      clear ta tn tw tg tp b1 b2 b3 b4 b5 hF4 hSp4
      rintro σ' H4 ⟨la, ln, lw, lg, lp, st, y10, y11, y12, rfl, hSp4, hF4, ⟨ta, tn, tw, tg, tp⟩, b1, b2, b3, b4, b5⟩
      refine s_cut (SpI s g H l sg way) ?_ ?_
      · walk_at "rd"
        refine ite2' (fun e => ?_) (fun e => ?_)
        · walk_at "rd"
          refine m_SI (by omega) (by omega) (by rw [Int.toNat_natCast, List.length_singleton]; omega) ?_
          rw [rep1, Int.toNat_natCast]
          have r1 : (List.replicate sg 121).length = sg := List.length_replicate
          have r2 : isT (List.replicate sg 121) = true := rep1_isT (by decide)
          generalize List.replicate sg 121 = rp at r1 r2
          walk_at "rd"
          refine ⟨_, _, _, _, _, _, _, _, _, rfl, hSp4, hF4, ⟨ta, tn, tw, by decide, isT_take _ (by rw [isT_app, tp, r2]; rfl)⟩, b1, b2, b3, by decide, ?_⟩
          rw [List.length_take]
          omega
        · walk_at "rd"
          exact ⟨_, _, _, _, _, _, _, _, _, rfl, hSp4, hF4, ⟨ta, tn, tw, tg, tp⟩, b1, b2, b3, b4, b5⟩
      clear ta tn tw tg tp b1 b2 b3 b4 b5 hF4 hSp4
      rintro σ' H4 ⟨la, ln, lw, lg, lp, st, y10, y11, y12, rfl, hSp4, hF4, ⟨ta, tn, tw, tg, tp⟩, b1, b2, b3, b4, b5⟩
      walk_at "rd"
      refine ite2' (fun e => ?_) (fun e => ?_)
      · walk_at "rd"
        refine ⟨s, g, 40, rfl, hSp4, by decide, fun l5 H5 hl5 hT5 hSp5 hF5 => ?_⟩
        walk_at "rd"
        refine ⟨by show 5 ≤ sizeLine; decide, fun p6 hp6 => ?_⟩
        walk_at "rd"
        refine ⟨s, g, 5, rfl, hSp5.new hp6, by decide, by decide, fun r7 H7 r70 r71 hSp7 hF7 => ?_⟩
        obtain ⟨v1, v2⟩ := hSp5.off hp6
        refine ix_txt (n := sg) (lst_of (hF7 p6 _ v1 v2 upd_same)) (txt_cons (l := []) (Nat.zero_le _) rfl (txt_cons ?_ ?_ (txt_cons ?_ ?_ (txt_cons ?_ ?_ (txt_cons ?_ ?_ txt_nil))))) r70 r71 fun l' hl' hT' => q l' H7 hl' hT' hSp7 (((hF4.trans hF5).new hp6).trans hF7)
        · rw [List.length_take]; omega
        · exact t1 _
        · rw [List.length_drop]; omega
        · exact t2 _
        · rw [List.length_append, List.length_drop, List.length_singleton]; show 1 + (l.length - 1) ≤ sg; omega
        · rw [isT_app, t2]; rfl
        · rw [List.length_append, List.length_singleton]; omega
        · rw [isT_app, hT5]; rfl
      · walk_at "rd"
        refine s_cut (SpI s g H l sg way) ?_ ?_
        · walk_at "rd"
          refine ite2' (fun e => ?_) (fun e => ?_)
          · walk_at "rd"
            refine ⟨s, g, 6, rfl, hSp4, by decide, by decide, fun r5 H5 r50 r51 hSp5 hF5 => ?_⟩
            refine ix_SS r50 r51 (by decide) fun c hcc => ?_
            exact ⟨_, _, _, _, _, _, _, _, _, rfl, hSp5, hF4.trans hF5, ⟨ta, tn, tw, isT_get (by decide) hcc, tp⟩, b1, b2, b3, by rw [List.length_singleton]; decide, b5⟩
          · walk_at "rd"
            exact ⟨_, _, _, _, _, _, _, _, _, rfl, hSp4, hF4, ⟨ta, tn, tw, tg, tp⟩, b1, b2, b3, b4, b5⟩
        clear ta tn tw tg tp b1 b2 b3 b4 b5 hF4 hSp4
        rintro σ' H4 ⟨la, ln, lw, lg, lp, st, y10, y11, y12, rfl, hSp4, hF4, ⟨ta, tn, tw, tg, tp⟩, b1, b2, b3, b4, b5⟩
        refine s_cut (SpI s g H l sg way) ?_ ?_
        · walk_at "rd"
          refine ite2' (fun e => ?_) (fun e => ?_)
          · walk_at "rd"
            refine ⟨s, g, 1000, rfl, hSp4, by decide, by decide, fun r5 H5 r50 r51 hSp5 hF5 => ?_⟩
            walk_at "rd"
            refine ⟨_, rfl, fun z hz => ?_⟩
            exact ⟨_, _, _, _, _, _, _, _, _, rfl, hSp5, hF4.trans hF5, ⟨ta, tn, pad_isT hz, tg, tp⟩, b1, b2, by rw [pad_len hz]; exact Nat.le_refl _, b4, b5⟩
          · walk_at "rd"
            exact ⟨_, _, _, _, _, _, _, _, _, rfl, hSp4, hF4, ⟨ta, tn, tw, tg, tp⟩, b1, b2, b3, b4, b5⟩
        clear ta tn tw tg tp b1 b2 b3 b4 b5 hF4 hSp4
        rintro σ' H4 ⟨la, ln, lw, lg, lp, st, y10, y11, y12, rfl, hSp4, hF4, ⟨ta, tn, tw, tg, tp⟩, b1, b2, b3, b4, b5⟩
        walk_at "rd"
        refine ite2' (fun e => ?_) (fun e => ?_)
        · walk_at "rd"
          refine ⟨s, g, 18, rfl, hSp4, by decide, by decide, fun r5 H5 r50 r51 hSp5 hF5 => ?_⟩
          walk_at "rd"
          refine ⟨s, g, 7, rfl, hSp5, by decide, by decide, fun r6 H6 r60 r61 hSp6 hF6 => ?_⟩
          refine ix_SS r60 r61 (by decide) fun c hcc => ?_
          walk_at "rd"
          refine q _ H6 ?_ ?_ hSp6 ((hF4.trans hF5).trans hF6)
          · rw [List.length_append, List.length_append, List.length_take, List.length_drop, List.length_singleton]
            omega
          · rw [isT_app, isT_app, t1, t2, isT_get (by decide) hcc]
            rfl
        · walk_at "rd"
          refine s_cut (SpI s g H l sg way) ?_ ?_
          · walk_at "rd"
            refine ite2' (fun e => ?_) (fun e => ?_)
            · walk_at "rd"
              exact ⟨_, _, _, _, [], _, _, _, _, rfl, hSp4, hF4, ⟨ta, tn, tw, tg, rfl⟩, b1, b2, b3, b4, Nat.zero_le _⟩
            · walk_at "rd"
              exact ⟨_, _, _, _, _, _, _, _, _, rfl, hSp4, hF4, ⟨ta, tn, tw, tg, tp⟩, b1, b2, b3, b4, b5⟩
          clear ta tn tw tg tp b1 b2 b3 b4 b5 hF4 hSp4
          rintro σ' H4 ⟨la, ln, lw, lg, lp, st, y10, y11, y12, rfl, hSp4, hF4, ⟨ta, tn, tw, tg, tp⟩, b1, b2, b3, b4, b5⟩
          walk_at "rd"
          refine q _ H4 ?_ ?_ hSp4 hF4
          · simp only [List.length_append]
            omega
          · rw [isT_app, isT_app, isT_app, isT_app, ta, tn, tw, tg, tp]
            rfl
end
end My

set_option Elab.async false
set_option linter.all false
set_option maxRecDepth 100000
set_option maxHeartbeats 1000000
namespace My
open PySem PySem.Spec PyProof.Rows L2
local macro_rules | `(tactic| walk_at "len") => `(tactic| first | assumption | omega | decide | (simp only [List.length_append, List.length_take, List.length_drop, List.length_cons, List.length_nil, List.length_replicate]; omega))
local macro_rules | `(tactic| walk_at "side") => `(tactic| first | assumption | exact Nat.zero_le _ | decide | omega)
local macro_rules | `(tactic| walk_at "rd1") => `(tactic| first
  | with_reducible refine s_seq ?_
  | with_reducible refine x_gsub ?_
  | with_reducible refine s_asg ?_
  | ((with_reducible refine s_gn ?_); dsimp only [List.set])
  | ((with_reducible refine x_var (v := ?rdv) ?rdhv ?_); (case rdhv => rfl))
  | with_reducible refine x_c ?_
  | with_reducible refine x_op ?_
  | with_reducible refine x_cons ?_
  | with_reducible refine x_nil ?_
  | with_reducible refine x_cb ?_
  | with_reducible refine x_call ?_
  | with_reducible refine s_if ?_
  | with_reducible refine s_ret ?_
  | with_reducible refine s_retN ?_
  | with_reducible refine s_next ?_
  | with_reducible refine s_brk ?_
  | with_reducible refine s_cont ?_
  | with_reducible refine s_drop ?_
  | with_reducible refine s_par ?_
  | with_reducible refine s_par3 ?_
  | ((with_reducible refine s_p2 ?_); dsimp only [List.set])
  | ((with_reducible refine s_p3 ?_); dsimp only [List.set])
  | with_reducible refine f_r1 ?_
  | with_reducible refine f_r2 ?_
  | with_reducible refine f_l ?_
  | with_reducible refine f_t ?_
  | with_reducible refine f_s ?_
  | with_reducible refine c_r1 ?_
  | with_reducible refine c_r2 ?_
  | with_reducible refine c_l ?_
  | with_reducible refine c_t ?_
  | with_reducible refine c_s ?_
  | with_reducible refine x_tst ?_
  | with_reducible refine x_tru ?_
  | with_reducible refine x_truB ?_
  | with_reducible refine x_bl2 ?_
  | with_reducible refine x_int ?_
  | with_reducible refine x_str ?_
  | with_reducible refine x_not ?_
  | with_reducible refine x_and ?_
  | with_reducible refine x_or ?_
  | with_reducible refine x_andV ?_
  | with_reducible refine x_orV ?_
  | with_reducible refine x_notV ?_
  | with_reducible refine x_if ?_
  | with_reducible refine x_yes ?_
  | with_reducible refine x_un ?_
  | with_reducible refine x_tup ?_
  | with_reducible refine x_lst ?_
  | with_reducible refine x_callK ?_
  | with_reducible refine x_callK0 ?_
  | with_reducible refine x_bm ?_
  | with_reducible refine x_bm0 ?_
  | with_reducible refine x_tyS ?_
  | with_reducible refine x_sl ?_
  | with_reducible refine x_nopart ?_
  | with_reducible refine x_part ?_
  | with_reducible refine x_fmt0 ?_
  | with_reducible refine x_gc ?_
  | with_reducible refine x_gz ?_
  | with_reducible refine x_ckw ?_
  | with_reducible refine x_fmt ?_
  | with_reducible refine x_chain ?_
  | with_reducible refine a_ii ?_
  | ((with_reducible refine sl_to ?rda ?rdb ?_); (case rda => walk_at "len"); (case rdb => walk_at "len"))
  | ((with_reducible refine sl_from ?rda ?rdb ?_); (case rda => walk_at "len"); (case rdb => walk_at "len"))
  | ((with_reducible refine sl_mid ?rda ?rdb ?rdc ?_); (case rda => walk_at "len"); (case rdb => walk_at "len"); (case rdc => walk_at "len"))
  | ((with_reducible refine a_SS ?rda ?_); (case rda => walk_at "len"))
  | ((with_reducible refine ln_S ?rda ?_); (case rda => walk_at "len"))
  | with_reducible refine e_SS ?_
  | with_reducible refine ne_SS ?_
  | with_reducible refine s_ii ?_
  | ((with_reducible refine md_ii ?rdc ?_); (case rdc => first | decide | assumption | omega))
  | with_reducible refine n_i ?_
  | with_reducible refine e_ii ?_
  | with_reducible refine e_bb ?_
  | with_reducible refine ne_ii ?_
  | with_reducible refine ne_bb ?_
  | with_reducible refine lt_ii ?_
  | with_reducible refine lt_ss ?_
  | with_reducible refine le_ii ?_
  | with_reducible refine gt_ii ?_
  | with_reducible refine gt_ss ?_
  | with_reducible refine ge_ii ?_
  | with_reducible refine e_ss ?_
  | with_reducible refine ne_ss ?_
  | with_reducible refine is_N ?_
  | with_reducible refine is_T ?_
  | with_reducible refine is_B ?_
  | with_reducible refine isn_N ?_
  | with_reducible refine isn_T ?_
  | with_reducible refine isn_B ?_
  | with_reducible refine in_s ?_
  | with_reducible refine nin_s ?_
  | with_reducible refine i_i ?_
  | with_reducible refine i_b ?_
  | with_reducible refine ab_i ?_
  | with_reducible refine mx_ii ?_
  | with_reducible refine mn_ii ?_
  | with_reducible refine ty_N ?_
  | with_reducible refine ty_B ?_
  | with_reducible refine ty_I ?_
  | with_reducible refine ty_S ?_
  | with_reducible refine ma_s ?_
  | with_reducible refine mp_s ?_
  | with_reducible refine mdg_s ?_
  | with_reducible refine mf_s ?_
  | with_reducible refine iteT ?_
  | with_reducible refine iteF ?_
  | with_reducible refine iteNt ?_
  | with_reducible refine iteNf ?_
  | with_reducible refine iteTd (by decide) ?_
  | with_reducible refine iteFd (by decide) ?_
  | with_reducible refine iteNd (by decide) ?_
  | with_reducible refine iteNdF (by decide) ?_
  | ((with_reducible refine iteFd ?rdn ?_); (case rdn => (intro rdz; cases rdz; done)))
  | ((with_reducible refine iteNdF ?rdn ?_); (case rdn => (intro rdz; cases rdz; done))))
local macro_rules | `(tactic| walk_at "rd") => `(tactic| (repeat walk_at "rd1"))
section
variable {P : Program} {w : World} {K : PySem.W.Frag} {mg : Str → Option Value} {base : Heap}
theorem flat_T (sg : Nat) : ∀ (ps : List (Option Pc)) (a : Nat) (acc : List (List Nat)) (bg ls ho : Nat) (rs : List (List Nat)), (∀ o ∈ ps, ∀ x, o = some x → isT x.2.2.2 = true) → AllT acc → AllT rs →
    AllT (flat sg ps a acc bg ls ho rs).1 ∧ (flat sg ps a acc bg ls ho rs).1.length ≤ rs.length + ps.length
  | [], a, acc, bg, ls, ho, rs, h, h1, h2 => ⟨h2, Nat.le_refl _⟩
  | none :: ps, a, acc, bg, ls, ho, rs, h, h1, h2 => ⟨h2, Nat.le_add_right _ _⟩
  | some (n, w, m, p) :: ps, a, acc, bg, ls, ho, rs, h, h1, h2 => by
    have hp : isT p = true := h _ (List.mem_cons_self ..) _ rfl
    have hs : AllT (acc ++ [p]) := fun z hz => (List.mem_append.mp hz).elim (h1 z) fun e => by rw [List.mem_singleton.mp e]; exact hp
    have h' := fun o ho => h o (List.mem_cons_of_mem _ ho)
    rw [flat]
    generalize (if acc = [] then w else ho) = wr
    split
    · exact ⟨h2, Nat.le_add_right _ _⟩
    · split
      · exact ⟨h2, Nat.le_add_right _ _⟩
      · split
        · obtain ⟨a1, a2⟩ := flat_T sg ps (a + 1) (acc ++ [p]) bg ls wr rs h' hs h2
          exact ⟨a1, by rw [List.length_cons]; omega⟩
        · obtain ⟨a1, a2⟩ := flat_T sg ps (a + 1) [] (a + 1) wr wr (rs ++ [(acc ++ [p]).flatten]) h' (fun _ h => by cases h)
            (fun z hz => (List.mem_append.mp hz).elim (h2 z) fun e => by rw [List.mem_singleton.mp e]; exact isT_flat hs)
          refine ⟨a1, ?_⟩
          rw [List.length_append] at a2
          rw [List.length_cons]
          simp only [List.length_cons, List.length_nil] at a2
          omega
theorem strOk_S {l : List Nat} (h : isT l = true) : SeqAt.shaped (.str (S l)) = true := by
  have h1 : PyData.canLay0 (.str (S l)) = true := by
    show PyData.strOk (S l) = true
    unfold PyData.strOk
    rw [← Array.all_toList, S_cps, List.all_eq_true]
    intro c hc
    have := isT_mem h hc
    exact decide_eq_true (by omega)
  unfold SeqAt.shaped
  rw [h1]
  simp [PyData.depth]
theorem shaped_int (i : Int) : SeqAt.shaped (.int i) = true := by simp [SeqAt.shaped, PyData.canLay0, PyData.depth]
theorem fine_str {l : List Nat} (n : Nat) (h : isT l = true) : Fine n (.str (S l)) := by cases n <;> exact strOk_S h
theorem fine_int (n : Nat) (i : Int) : Fine n (.int i) := by cases n <;> exact shaped_int i
theorem fine_list {n : Nat} {ds : List PyData} (hl : ds.length ≤ 100000) (h : ∀ e ∈ ds, Fine n e) : Fine (n + 1) (.list ds) := ⟨hl, h⟩
theorem mem2 {α : Type} {P : α → Prop} {a b : α} (h1 : P a) (h2 : P b) : ∀ e ∈ [a, b], P e := fun e he => by
  simp only [List.mem_cons, List.not_mem_nil, or_false] at he
  rcases he with rfl | rfl
  · exact h1
  · exact h2
theorem ofAge_T {age : Nat} {l : List Nat} {x : Pc} (hT : isT l = true) (h : ofAge age l = some x) : isT x.2.2.2 = true := by
  unfold ofAge at h
  cases hr : rdP l with
  | none => rw [hr] at h; cases h
  | some y =>
    obtain ⟨a, n, w, m, p⟩ := y
    rw [hr] at h
    have h' : (if a = age then some (n, w, m, p) else none) = some x := h
    split at h'
    · cases h'
      exact (rd_part hT hr).1
    · cases h'
theorem fine_toldD (n sg age : Nat) {ls : List (List Nat)} (hl : ls.length ≤ 200) (hT : ∀ l ∈ ls, isT l = true) : Fine (n + 2) (toldD sg (ls.map (ofAge age))) := by
  obtain ⟨a1, a2⟩ := flat_T sg (ls.map (ofAge age)) 0 [] 0 0 0 [] (fun o ho x e => by
    obtain ⟨l, hm, he⟩ := List.mem_map.mp ho
    rw [e] at he
    exact ofAge_T (hT l hm) he) (fun _ h => by cases h) (fun _ h => by cases h)
  rw [List.length_map] at a2
  unfold toldD
  refine ⟨by show 3 ≤ 100000; decide, fun e he => ?_⟩
  simp only [List.mem_cons, List.not_mem_nil, or_false] at he
  rcases he with rfl | rfl | rfl
  · refine ⟨by rw [List.length_map]; simp only [List.length_nil] at a2; omega, fun e he => ?_⟩
    obtain ⟨l, hm, rfl⟩ := List.mem_map.mp he
    exact fine_str n (a1 l hm)
  · exact fine_int (n + 1) _
  · exact fine_int (n + 1) _
theorem tv_at {ls : List (List Nat)} {i : Nat} (h : i < ls.length) : (tv ls)[i]? = some (.str (S ls[i])) := by
  unfold tv
  rw [List.getElem?_map, List.getElem?_eq_getElem h]
  rfl
theorem Blk.app {n : Nat} {a b : List (List Nat)} (h1 : Blk n a) (h2 : Blk n b) : Blk n (a ++ b) := fun x hx => (List.mem_append.mp hx).elim (h1 x) (h2 x)
theorem Blk.le {n m : Nat} {a : List (List Nat)} (h : Blk n a) (e : n ≤ m) : Blk m a := fun x hx => ⟨(h x hx).1, Nat.le_trans (h x hx).2 e⟩
def Kp (s g B I : Addr) (ls img : List (List Nat)) (H : Hp) : Prop := SprAt H s g ∧ H B = some (.lst (tv ls)) ∧ H I = some (.tup (tv img))
theorem Kp.same {s g B I : Addr} {ls img : List (List Nat)} {H H' : Hp} (h : Kp s g B I ls img H) (e : Same H H') : Kp s g B I ls img H' := ⟨h.1.same e, e _ _ h.2.1, e _ _ h.2.2⟩
theorem Kp.frm {s g B I : Addr} {ls img : List (List Nat)} {H H' : Hp} (h : Kp s g B I ls img H) (hB : B ≠ s ∧ B ≠ g) (hI : I ≠ s ∧ I ≠ g) (hs : SprAt H' s g) (e : Frm s g H H') : Kp s g B I ls img H' := ⟨hs, e _ _ hB.1 hB.2 h.2.1, e _ _ hI.1 hI.2 h.2.2⟩
def spLaw (K : PySem.W.Frag) : Sp := fun vs H Q _ => ∃ (a : Addr) (ns : List Int), vs = [.ref a] ∧ SqL K H a (ns.map V.int) ∧ ns.length ≤ 63 ∧ ∀ H', Q (.bl true) H'
def LawInv (a s g : Addr) (σ : St) (H : Hp) : Prop := ∃ y2 y3 y4 y5 y6 y7 y8 y9 y10 y11 y12 y13 y14 y15 y16 y17 y18, σ = [some (.ref a), some (.ref s), y2, y3, y4, y5, y6, y7, y8, y9, y10, y11, y12, y13, y14, y15, y16, y17, y18] ∧ SprAt H s g
theorem ok_law (Y : Fx K mg) : FnOk P w K mg base CX0 6 Y.a_law Y.fd_law ["_law_script"] (spLaw K) := by
  refine Y.F_law.ok sc_law (fun vs H Q E h => ?_) (fun cdv A outer st H vs Q E hr h => ?_)
  · obtain ⟨a, ns, rfl, _⟩ := h
    rfl
  · obtain ⟨a, ns, rfl, hS, hl, q⟩ := h
    refine ⟨_, b_law Y (sp__law_alike := spA (Fine 3)) (ok__law_alike Y 3) (ok__law_area Y) (ok__law_drop Y) (ok__law_piece Y) (ok__law_spoilt Y) (ok__law_spring Y) (ok__law_told Y) (ok_told_log Y) hr, ?_⟩
    show t_law K _ _ _ _ _ _ _ _ _ [some (.ref a), none, none, none, none, none, none, none, none, none, none, none, none, none, none, none, none, none, none] H
    unfold t_law
    rw [show ("." : Str) = S [46] from rfl, show ("beside" : Str) = S [98, 101, 115, 105, 100, 101] from rfl, show ("behind" : Str) = S [98, 101, 104, 105, 110, 100] from rfl]
    walk_at "rd"
    refine ⟨a, ns, rfl, hS, hl, fun s g H1 hsn hgn hSp hS1 => ?_⟩
    walk_at "rd"
    refine for1_mk (by decide) (by decide) (fun i σ H' => LawInv a s g σ H') ⟨none, none, none, none, none, none, none, none, none, none, none, none, none, none, none, none, none, rfl, hSp⟩ (fun i σ H0 hi hP => ?_) (fun σ H' hP => ?_)
    · obtain ⟨y2, y3, y4, y5, y6, y7, y8, y9, y10, y11, y12, y13, y14, y15, y16, y17, y18, rfl, hSp0⟩ := hP
      clear hSp hS1 hsn hgn hS hl
      walk_at "rd"
      refine ⟨s, g, 901, rfl, hSp0, by decide, by decide, fun r1 H1 r10 r11 hSp1 _ => ?_⟩
      walk_at "rd"
      refine ⟨by show 3 ≤ sizeLine; decide, fun p1 hp1 => ?_⟩
      walk_at "rd"
      refine ⟨s, g, 9, rfl, hSp1.new hp1, by decide, by decide, fun r2 H2 r20 r21 hSp2 hF2 => ?_⟩
      obtain ⟨u1, u2⟩ := hSp1.off hp1
      walk_at "rd"
      have hm3 : 0 ≤ (if r2 - 6 > 0 then r2 - 6 else 0) ∧ (if r2 - 6 > 0 then r2 - 6 else 0) < 3 := by split <;> omega
      generalize (if r2 - 6 > 0 then r2 - 6 else 0) = ix3 at hm3
      refine ix_rng (lo := 100) (hi := 1000) (lst_of (hF2 p1 _ u1 u2 upd_same)) (rng_cons (by decide) (by decide) (rng_cons (by decide) (by decide) (rng_cons (by omega) (by omega) rng_nil))) hm3.1 hm3.2 fun zs zs0 zs1 => ?_
      obtain ⟨sg, rfl⟩ : ∃ sg : Nat, zs = (sg : Int) := ⟨zs.toNat, by omega⟩
      clear hSp0 hSp1 hF2 u1 u2 hp1
      walk_at "rd"
      refine ⟨by show 3 ≤ sizeLine; decide, fun p2 hp2 => ?_⟩
      walk_at "rd"
      refine ⟨s, g, 9, rfl, hSp2.new hp2, by decide, by decide, fun r3 H3 r30 r31 hSp3 hF3 => ?_⟩
      obtain ⟨u1, u2⟩ := hSp2.off hp2
      walk_at "rd"
      have hm3 : 0 ≤ (if r3 - 6 > 0 then r3 - 6 else 0) ∧ (if r3 - 6 > 0 then r3 - 6 else 0) < 3 := by split <;> omega
      generalize (if r3 - 6 > 0 then r3 - 6 else 0) = ix3 at hm3
      refine ix_rng (lo := 8) (hi := 197) (lst_of (hF3 p2 _ u1 u2 upd_same)) (rng_cons (by decide) (by decide) (rng_cons (by decide) (by decide) (rng_cons (by decide) (by decide) rng_nil))) hm3.1 hm3.2 fun zc zc0 zc1 => ?_
      walk_at "rd"
      refine ⟨s, g, zc, rfl, hSp3, by omega, by omega, fun r4 H4 r40 r41 hSp4 _ => ?_⟩
      clear hSp2 hSp3 hF3 u1 u2 hp2
      walk_at "rd"
      refine s_cut (fun σ' H' => ∃ cnt : Nat, 1 ≤ cnt ∧ cnt ≤ 197 ∧ σ' = [some (.ref a), some (.ref s), some (.int i), some (.int sg), some (.int cnt), y5, y6, y7, y8, y9, y10, y11, y12, y13, y14, y15, y16, y17, y18] ∧ SprAt H' s g) ?_ ?_
      · obtain ⟨c1, hc1⟩ : ∃ c1 : Nat, 1 + r4 = (c1 : Int) := ⟨(1 + r4).toNat, by omega⟩
        rw [hc1]
        walk_at "rd"
        refine ite2' (fun e => ?_) (fun e => ?_)
        · walk_at "rd"
          have hb : 1 ≤ (if (20 : Int) < (c1 : Int) then (20 : Int) else c1) ∧ (if (20 : Int) < (c1 : Int) then (20 : Int) else c1) ≤ 197 := by split <;> omega
          generalize (if (20 : Int) < (c1 : Int) then (20 : Int) else c1) = e2 at hb
          obtain ⟨c2, rfl⟩ : ∃ c2 : Nat, e2 = (c2 : Int) := ⟨e2.toNat, by omega⟩
          exact ⟨c2, by omega, by omega, rfl, hSp4⟩
        · walk_at "rd"
          exact ⟨c1, by omega, by omega, rfl, hSp4⟩
      rintro σ' H5 ⟨cnt, hc0, hc1, rfl, hSp5⟩
      clear hSp4
      walk_at "rd"
      refine ⟨s, g, 1000, rfl, hSp5, by decide, by decide, fun r5 H6 r50 r51 hSp6 _ => ?_⟩
      walk_at "rd"
      refine ⟨by show 5 ≤ sizeLine; decide, fun p3 hp3 => ?_⟩
      walk_at "rd"
      refine ⟨s, g, 5, rfl, hSp6.new hp3, by decide, by decide, fun r6 H7 r60 r61 hSp7 hF7 => ?_⟩
      obtain ⟨u1, u2⟩ := hSp6.off hp3
      refine ix_rng (lo := 0) (hi := 999999) (lst_of (hF7 p3 _ u1 u2 upd_same)) (rng_cons (by decide) (by decide) (rng_cons (by decide) (by decide) (rng_cons (by decide) (by decide) (rng_cons (by omega) (by omega) (rng_cons (by decide) (by decide) rng_nil))))) r60 r61 fun za za0 za1 => ?_
      obtain ⟨age, rfl⟩ : ∃ age : Nat, za = (age : Int) := ⟨za.toNat, by omega⟩
      clear hSp5 hSp6 hF7 u1 u2 hp3
      walk_at "rd"
      refine ⟨s, g, sg, age, cnt, rfl, hSp7, by omega, by omega, by omega, hc0, hc1, fun B H8 ls0 hSp8 hF8 hBn hB8 hl8 hb8 => ?_⟩
      have oB := hSp7.off hBn
      clear hSp7 hF8 hBn
      walk_at "rd"
      refine ⟨s, g, 5, rfl, hSp8, by decide, by decide, fun r7 H9 r70 r71 hSp9 hF9 => ?_⟩
      have hB9 := hF9 B _ oB.1 oB.2 hB8
      clear hSp8 hF9 hB8
      walk_at "rd"
      refine for1_mk (by omega) (by omega) (fun j σ H' => ∃ (ls : List (List Nat)) (y7 y13 : Option V), σ = [some (.ref a), some (.ref s), some (.int i), some (.int sg), some (.int cnt), some (.int age), some (.ref B), y7, y8, y9, y10, y11, y12, y13, y14, y15, y16, y17, y18] ∧ SprAt H' s g ∧ H' B = some (.lst (tv ls)) ∧ ls.length = cnt ∧ Blk sg ls) ⟨ls0, _, _, rfl, hSp9, hB9, hl8, hb8⟩ (fun j σ H' hj hV => ?_) (fun σ H' hV => ?_)
      · obtain ⟨ls, y7, y13, rfl, hSp', hB', hl', hb'⟩ := hV
        walk_at "rd"
        refine ⟨s, g, cnt, rfl, hSp', by omega, by omega, fun r8 H10 r80 r81 hSp10 hF10 => ?_⟩
        have hB10 := hF10 B _ oB.1 oB.2 hB'
        have hk : r8.toNat < ls.length := by omega
        obtain ⟨hx1, hx2⟩ := hb' _ (List.getElem_mem hk)
        walk_at "rd"
        refine ix_L (lst_of hB10) (at_nat r80 (tv_at hk)) ?_
        generalize ls[r8.toNat] = l at hx1 hx2
        walk_at "rd"
        refine ⟨s, g, l, sg, rfl, hSp10, by omega, by omega, hx1, hx2, fun l' H11 hl11 hT11 hSp11 hF11 => ?_⟩
        have hB11 := hF11 B _ oB.1 oB.2 hB10
        walk_at "rd"
        refine st_L hB11 r80 (by rw [tv_len]; omega) ?_
        rw [show (tv ls).set r8.toNat (V.str (S l')) = tv (ls.set r8.toNat l') by unfold tv; rw [List.map_set]]
        refine ⟨ls.set r8.toNat l', _, _, rfl, hSp11.keep oB.1 oB.2, upd_same, by rw [List.length_set]; exact hl', fun x hx => ?_⟩
        rcases List.mem_or_eq_of_mem_set hx with h | h
        · exact hb' x h
        · rw [h]
          exact ⟨hT11, hl11⟩
      · obtain ⟨ls, y7, y13, rfl, hSp', hB', hl', hb'⟩ := hV
        clear hSp9 hB9 hl8 hb8
        walk_at "rd"
        have hm : 1 ≤ (if (201 : Int) - (cnt : Int) < 5 then (201 : Int) - (cnt : Int) else 5) ∧ (if (201 : Int) - (cnt : Int) < 5 then (201 : Int) - (cnt : Int) else 5) ≤ 5 ∧ (if (201 : Int) - (cnt : Int) < 5 then (201 : Int) - (cnt : Int) else 5) ≤ 201 - cnt := by split <;> omega
        generalize (if (201 : Int) - (cnt : Int) < 5 then (201 : Int) - (cnt : Int) else 5) = m5 at hm
        obtain ⟨m50, m51, m52⟩ := hm
        refine ⟨s, g, m5, rfl, hSp', by omega, by omega, fun r9 H12 r90 r91 hSp12 hF12 => ?_⟩
        have hB12 := hF12 B _ oB.1 oB.2 hB'
        obtain ⟨f, rfl⟩ : ∃ f : Nat, r9 = (f : Int) := ⟨r9.toNat, by omega⟩
        have hf4 : f ≤ 4 := by omega
        have hfc : f + cnt ≤ 200 := by omega
        clear hSp' hF12 hB'
        walk_at "rd"
        refine lcR1_mk (by omega) (by omega) (fun D j H' => Same H12 H' ∧ ∃ ts : List (List Nat), H' D = some (.lst (tv ts)) ∧ ts.length = j ∧ Blk sg ts) (fun D hD => ⟨same_upd hD, [], upd_same, rfl, fun _ h => by cases h⟩) (fun D j H' hD hj hV => ?_) (fun D H13 hD hV => ?_)
        · obtain ⟨hS, ts, hts, htl, htb⟩ := hV
          refine ⟨rfl, ?_⟩
          walk_at "rd"
          refine ⟨age, j, 600000, [46], [98, 101, 115, 105, 100, 101], rfl, by omega, by omega, by decide, by decide, by decide, by decide, by decide, fun l' H14 hl14 hT14 hS14 => ?_⟩
          refine ⟨_, hS14 _ _ hts, Nat.lt_of_le_of_lt (show (tv ts).length ≤ 10 by rw [tv_len]; omega) (by decide), same_mut (hS.trans hS14) hD, ts ++ [l'], ?_, ?_, htb.app fun x hx => ?_⟩
          · rw [upd_same, tv_app]
            rfl
          · rw [List.length_append, htl]
            rfl
          · rw [List.mem_singleton.mp hx]
            exact ⟨hT14, by rw [hl14]; show 25 ≤ sg; omega⟩
        · obtain ⟨hS13, bs, hbs, hbl, hbb⟩ := hV
          rw [Int.toNat_natCast] at hbl
          have hB13 := hS13 _ _ hB12
          have hSp13 := hSp12.same hS13
          clear hSp12 hB12 hS13
          walk_at "rd"
          have hm : 0 ≤ (if (4 : Int) - (f : Int) - (cnt : Int) > 0 then (4 : Int) - (f : Int) - (cnt : Int) else 0) ∧ (if (4 : Int) - (f : Int) - (cnt : Int) > 0 then (4 : Int) - (f : Int) - (cnt : Int) else 0) ≤ 4 ∧ 4 ≤ (if (4 : Int) - (f : Int) - (cnt : Int) > 0 then (4 : Int) - (f : Int) - (cnt : Int) else 0) + f + cnt ∧ (if (4 : Int) - (f : Int) - (cnt : Int) > 0 then (4 : Int) - (f : Int) - (cnt : Int) else 0) + f + cnt ≤ 200 := by split <;> omega
          generalize (if (4 : Int) - (f : Int) - (cnt : Int) > 0 then (4 : Int) - (f : Int) - (cnt : Int) else 0) = m6 at hm
          obtain ⟨b, rfl⟩ : ∃ b : Nat, m6 = (b : Int) := ⟨m6.toNat, by omega⟩
          refine lcR1_mk (by omega) (by omega) (fun D j H' => Same H13 H' ∧ ∃ ts : List (List Nat), H' D = some (.lst (tv ts)) ∧ ts.length = j ∧ Blk sg ts) (fun D hD => ⟨same_upd hD, [], upd_same, rfl, fun _ h => by cases h⟩) (fun D' j H' hD' hj hV => ?_) (fun D' H15 hD' hV => ?_)
          · obtain ⟨hS, ts, hts, htl, htb⟩ := hV
            refine ⟨rfl, ?_⟩
            walk_at "rd"
            rw [show (cnt : Int) + (j : Int) = ((cnt + j : Nat) : Int) by omega]
            refine ⟨age, cnt + j, 600001, [46], [98, 101, 104, 105, 110, 100], rfl, by omega, by omega, by decide, by decide, by decide, by decide, by decide, fun l' H14 hl14 hT14 hS14 => ?_⟩
            refine ⟨_, hS14 _ _ hts, Nat.lt_of_le_of_lt (show (tv ts).length ≤ 10 by rw [tv_len]; omega) (by decide), same_mut (hS.trans hS14) hD', ts ++ [l'], ?_, ?_, htb.app fun x hx => ?_⟩
            · rw [upd_same, tv_app]
              rfl
            · rw [List.length_append, htl]
              rfl
            · rw [List.mem_singleton.mp hx]
              exact ⟨hT14, by rw [hl14]; show 25 ≤ sg; omega⟩
          · obtain ⟨hS15, bh, hbh, hbhl, hbhb⟩ := hV
            rw [Int.toNat_natCast] at hbhl
            have hB15 := hS15 _ _ hB13
            have hbs15 := hS15 _ _ hbs
            have hSp15 := hSp13.same hS15
            clear hSp13 hB13 hS15
            walk_at "rd"
            refine a_ll hbs15 hB15 (Nat.le_trans (show (tv bs).length + (tv ls).length ≤ 300 by rw [tv_len, tv_len]; omega) (by decide)) fun p4 hp4 => ?_
            walk_at "rd"
            have hS16 := same_upd hp4 (o := .lst (tv bs ++ tv ls))
            refine a_ll upd_same (hS16 _ _ hbh) (Nat.le_trans (show (tv bs ++ tv ls).length + (tv bh).length ≤ 300 by rw [List.length_append, tv_len, tv_len, tv_len]; omega) (by decide)) fun p5 hp5 => ?_
            walk_at "rd"
            refine tu_L (lst_of upd_same) fun I hI => ?_
            rw [← tv_app, ← tv_app]
            rw [← tv_app] at hI hp5
            rw [← tv_app] at hI
            have hKp : Kp s g B I ls (bs ++ ls ++ bh) (upd (upd (upd H15 p4 (.lst (tv (bs ++ ls)))) p5 (.lst (tv (bs ++ ls ++ bh)))) I (.tup (tv (bs ++ ls ++ bh)))) :=
              ⟨((hSp15.new hp4).new hp5).new hI, (same_new (same_new (same_upd hp4) hp5) hI) _ _ hB15, upd_same⟩
            have oI := ((hSp15.new hp4).new hp5).off hI
            have himl : (bs ++ ls ++ bh).length = f + cnt + b := by rw [List.length_append, List.length_append, hbl, hl', hbhl]
            have himb : Blk sg (bs ++ ls ++ bh) := (hbb.app hb').app hbhb
            have hdrop : ∀ k, k ≤ cnt → ((bs ++ ls ++ bh).drop f).take k = ls.take k := fun k hk => by
              rw [List.append_assoc, List.drop_left' hbl, List.take_append_of_le_length (by omega)]
            have hdrop2 : ∀ k, k ≤ cnt → ((bs ++ ls ++ bh).drop (f + k)).take (cnt - k) = ls.drop k := fun k hk => by
              rw [← List.drop_drop, List.append_assoc, List.drop_left' hbl, List.drop_append_of_le_length (by omega), List.take_append_of_le_length (by rw [List.length_drop]; omega), List.take_of_length_le (by rw [List.length_drop]; omega)]
            show (fun σ H' => _ : L2.St → Hp → Prop) _ (upd (upd (upd H15 p4 (.lst (tv (bs ++ ls)))) p5 (.lst (tv (bs ++ ls ++ bh)))) I (.tup (tv (bs ++ ls ++ bh))))
            generalize upd (upd (upd H15 p4 (.lst (tv (bs ++ ls)))) p5 (.lst (tv (bs ++ ls ++ bh)))) I (.tup (tv (bs ++ ls ++ bh))) = H16 at hKp
            generalize bs ++ ls ++ bh = img at hKp himl himb hdrop hdrop2
            clear hbs hbs15 hbh hB15 hSp15 hp4 hS16 hp5 hI hD hD'
            have hls1000 : Blk 1000 ls := hb'.le (by omega)
            have hTs : ∀ l ∈ ls, isT l = true := fun l hl => (hb' l hl).1
            walk_at "rd"
            refine ⟨by show 2 ≤ sizeLine; decide, fun T1 hT1 => ?_⟩
            have oT := hKp.1.off hT1
            have hKp1 := hKp.same (same_upd hT1 (o := .tup [.int cnt, .int age]))
            walk_at "rd"
            refine ⟨s, g, cnt, rfl, hKp1.1, by omega, by omega, fun r10 H17 r100 r101 hSp17 hF17 => ?_⟩
            have hKp2 := hKp1.frm oB oI hSp17 hF17
            have h1T := hF17 T1 _ oT.1 oT.2 upd_same
            walk_at "rd"
            obtain ⟨m2, hm2⟩ : ∃ m2 : Nat, 1 + r10 = (m2 : Int) := ⟨(1 + r10).toNat, by omega⟩
            rw [hm2]
            refine ⟨by show 2 ≤ sizeLine; decide, fun T2 hT2 => ?_⟩
            walk_at "rd"
            refine ⟨by show 2 ≤ sizeLine; decide, fun p6 hp6 => ?_⟩
            walk_at "rd"
            obtain ⟨ot, hot, hat⟩ : ∃ ot : Nat, ot ≤ 999999 ∧ atI [V.int 1, V.int ((age : Int) - 1)] (if decide ((0 : Int) < (age : Int)) = true then 1 else 0) = some (.int ot) := by
              by_cases h : (0 : Int) < (age : Int)
              · refine ⟨age - 1, by omega, ?_⟩
                rw [decide_eq_true h, show (age : Int) - 1 = ((age - 1 : Nat) : Int) by omega]
                rfl
              · refine ⟨1, by decide, ?_⟩
                rw [decide_eq_false h]
                rfl
            refine ix_L (lst_of upd_same) hat ?_
            walk_at "rd"
            refine ⟨by show 2 ≤ sizeLine; decide, fun T3 hT3 => ?_⟩
            walk_at "rd"
            refine ⟨by show 3 ≤ sizeLine; decide, fun p7 hp7 => ?_⟩
            have sA := same_upd hT2 (o := .tup [.int m2, .int age])
            have sB := same_upd hp6 (o := .lst [V.int 1, V.int ((age : Int) - 1)])
            have sC := same_upd hT3 (o := .tup [.int cnt, .int ot])
            have sD := same_upd hp7 (o := .lst [V.ref T1, .ref T2, .ref T3])
            have hKp3 := hKp2.same (((sA.trans sB).trans sC).trans sD)
            have h1T' := (((sA.trans sB).trans sC).trans sD) _ _ h1T
            have h2T' := ((sB.trans sC).trans sD) T2 _ upd_same
            have h3T' := sD T3 _ upd_same
            have h7 := upd_same (H := upd (upd (upd H17 T2 (.tup [.int m2, .int age])) p6 (.lst [V.int 1, V.int ((age : Int) - 1)])) T3 (.tup [.int cnt, .int ot])) (a := p7) (o := .lst [V.ref T1, .ref T2, .ref T3])
            generalize upd (upd (upd (upd H17 T2 (.tup [.int m2, .int age])) p6 (.lst [V.int 1, V.int ((age : Int) - 1)])) T3 (.tup [.int cnt, .int ot])) p7 (.lst [V.ref T1, .ref T2, .ref T3]) = H18 at hKp3 h1T' h2T' h3T' h7
            clear sA sB sC sD hKp2 h1T hSp17 hF17 hKp1 hKp
            have hall : ∀ x ∈ [V.ref T1, .ref T2, .ref T3], ∃ (t : Addr) (many ot : Nat), x = .ref t ∧ H18 t = some (.tup [.int many, .int ot]) ∧ 1 ≤ many ∧ many ≤ cnt ∧ ot ≤ 999999 := by
              intro x hx
              simp only [List.mem_cons, List.not_mem_nil, or_false] at hx
              rcases hx with rfl | rfl | rfl
              · exact ⟨T1, cnt, age, rfl, h1T', hc0, Nat.le_refl _, by omega⟩
              · exact ⟨T2, m2, age, rfl, h2T', by omega, by omega, by omega⟩
              · exact ⟨T3, cnt, ot, rfl, h3T', hc0, Nat.le_refl _, hot⟩
            refine forL_mk (lst_of h7) (fun j σ H' => ∃ y15 y16 y17 y18, σ = [some (.ref a), some (.ref s), some (.int i), some (.int sg), some (.int cnt), some (.int age), some (.ref B), y7, some (.int f), some (.ref D), some (.ref D'), some (.ref I), y12, y13, y14, y15, y16, y17, y18] ∧ Same H18 H') ⟨_, _, _, _, rfl, Same.refl _⟩ (fun j σ H' _ hV => lst_of (hV.choose_spec.choose_spec.choose_spec.choose_spec.2 _ _ h7)) (fun j x σ H' hx hV => ?_) (fun σ H' hV => ?_)
            · obtain ⟨y15, y16, y17, y18, rfl, hS18⟩ := hV
              obtain ⟨t, many, ot', rfl, ht, hm0, hm1, hot'⟩ := hall x (List.mem_of_getElem? hx)
              have hK := hKp3.same hS18
              refine gt_T (tup_of (hS18 _ _ ht)) rfl ?_
              walk_at "rd"
              refine sl_L (lst_of hK.2.1) fun q1 hq1 => ?_
              rw [cutV_to, show (tv ls).take many = tv (ls.take many) by unfold tv; rw [List.map_take]]
              have hK1 := hK.same (same_upd hq1 (o := .lst (tv (ls.take many))))
              walk_at "rd"
              refine ⟨q1, ls.take many, sg, ot', rfl, lst_of upd_same, by rw [List.length_take]; omega, fun x hx => hls1000 x (List.mem_of_mem_take hx), by omega, fun v1 H19 hS19 hv1 => ?_⟩
              have hK2 := hK1.same hS19
              have hS19' := (hS18.trans (same_upd hq1 (o := .lst (tv (ls.take many))))).trans hS19
              walk_at "rd"
              refine ⟨I, img, sg, f, many, ot', rfl, tup_of hK2.2.2, by omega, by omega, by omega, by omega, himb, hm0, by omega, by omega, hot', fun v2 H20 hS20 hv2 => ?_⟩
              rw [hdrop many hm1] at hv2
              have hK3 := hK2.same hS20
              walk_at "rd"
              refine ⟨by show 1 ≤ sizeLine; decide, fun q2 hq2 => ?_⟩
              have hS21 := same_upd hq2 (o := .lst [v2])
              walk_at "rd"
              refine ⟨I, img, sg, f, many, ot', rfl, tup_of (hK3.same hS21).2.2, by omega, by omega, by omega, by omega, himb, hm0, by omega, by omega, hot', fun v3 H22 hS22 hv3 => ?_⟩
              rw [hdrop many hm1] at hv3
              walk_at "rd"
              refine ⟨by show 1 ≤ sizeLine; decide, fun q3 hq3 => ?_⟩
              have hS23 := same_upd hq3 (o := .lst [v3])
              refine a_ll ((hS22.trans hS23) q2 _ upd_same) upd_same (by show 2 ≤ sizeLine; decide) fun q4 hq4 => ?_
              have hS24 := same_upd hq4 (o := .lst ([v2] ++ [v3]))
              walk_at "rd"
              refine ⟨by show 2 ≤ sizeLine; decide, fun q5 hq5 => ?_⟩
              have hS25 := same_upd hq5 (o := .lst [v1, v1])
              have t0 := (hS23.trans hS24).trans hS25
              have t1 := hS22.trans t0
              have t2 := hS21.trans t1
              have t3 := hS20.trans t2
              have d1 := dp_mono t3 _ _ hv1
              have d2 := dp_mono t2 _ _ hv2
              have d3 := dp_mono t0 _ _ hv3
              have hT2 : ∀ l ∈ ls.take many, isT l = true := fun l hl => hTs l (List.mem_of_mem_take hl)
              walk_at "rd"
              refine ⟨.ref q4, .ref q5, .list [toldD sg ((ls.take many).map (ofAge ot')), toldD sg ((ls.take many).map (ofAge ot'))], rfl, .lst (lst_of (hS25 _ _ upd_same)) (.cons d2 (.cons d3 .nil)), .lst (lst_of upd_same) (.cons d1 (.cons d1 .nil)), fine_list (by show 2 ≤ 100000; decide) (mem2 (fine_toldD 0 sg ot' (by rw [List.length_take]; omega) hT2) (fine_toldD 0 sg ot' (by rw [List.length_take]; omega) hT2)), fun H26 hS26 => ?_⟩
              walk_at "rd"
              exact ⟨_, _, _, _, rfl, (hS19'.trans t3).trans hS26⟩
            · obtain ⟨y15, y16, y17, y18, rfl, hS18⟩ := hV
              have hK := hKp3.same hS18
              clear hKp3 hall h1T' h2T' h3T' h7 hS18
              walk_at "rd"
              refine ⟨s, g, 40, rfl, hK.1, by decide, by decide, fun r11 H19 r110 r111 hSp19 hF19 => ?_⟩
              have hK1 := hK.frm oB oI hSp19 hF19
              walk_at "rd"
              have hm : (sg : Int) ≤ (if (sg : Int) + 1 + r11 < 1000 then (sg : Int) + 1 + r11 else 1000) ∧ (if (sg : Int) + 1 + r11 < 1000 then (sg : Int) + 1 + r11 else 1000) ≤ 1000 := by split <;> omega
              generalize (if (sg : Int) + 1 + r11 < 1000 then (sg : Int) + 1 + r11 else 1000) = m7 at hm
              obtain ⟨wd, rfl⟩ : ∃ wd : Nat, m7 = (wd : Int) := ⟨m7.toNat, by omega⟩
              refine ⟨I, img, wd, f, cnt, age, rfl, tup_of hK1.2.2, by omega, by omega, by omega, by omega, himb.le (by omega), hc0, hc1, by omega, by omega, fun v1 H20 hS20 hv1 => ?_⟩
              rw [hdrop cnt (Nat.le_refl _), List.take_of_length_le (by omega)] at hv1
              have hK2 := hK1.same hS20
              walk_at "rd"
              refine ⟨B, ls, wd, age, rfl, lst_of hK2.2.1, by omega, hls1000, by omega, fun v2 H21 hS21 hv2 => ?_⟩
              have hK3 := hK2.same hS21
              walk_at "rd"
              refine ⟨v1, v2, _, rfl, dp_mono hS21 _ _ hv1, hv2, fine_toldD 1 wd age (by omega) hTs, fun H22 hS22 => ?_⟩
              have hK4 := hK3.same hS22
              clear hK hK1 hK2 hK3
              walk_at "rd"
              refine ⟨s, g, cnt, rfl, hK4.1, by omega, by omega, fun r12 H23 r120 r121 hSp23 hF23 => ?_⟩
              have hK5 := hK4.frm oB oI hSp23 hF23
              obtain ⟨k, rfl⟩ : ∃ k : Nat, r12 = (k : Int) := ⟨r12.toNat, by omega⟩
              walk_at "rd"
              refine sl_L (lst_of hK5.2.1) fun q1 hq1 => ?_
              rw [cutV_from, show (tv ls).drop k = tv (ls.drop k) by unfold tv; rw [List.map_drop]]
              have hK6 := hK5.same (same_upd hq1 (o := .lst (tv (ls.drop k))))
              walk_at "rd"
              refine ⟨q1, ls.drop k, sg, age, rfl, lst_of upd_same, by rw [List.length_drop]; omega, fun x hx => hls1000 x (List.mem_of_mem_drop hx), by omega, fun v3 H24 hS24 hv3 => ?_⟩
              have hK7 := hK6.same hS24
              walk_at "rd"
              rw [show (f : Int) + (k : Int) = ((f + k : Nat) : Int) by omega, show (cnt : Int) - (k : Int) = ((cnt - k : Nat) : Int) by omega]
              refine ⟨I, img, sg, f + k, cnt - k, age, rfl, tup_of hK7.2.2, by omega, by omega, by omega, by omega, himb, by omega, by omega, by omega, by omega, fun v4 H25 hS25 hv4 => ?_⟩
              rw [hdrop2 k (by omega)] at hv4
              have hK8 := hK7.same hS25
              walk_at "rd"
              refine ⟨v4, v3, _, rfl, hv4, dp_mono hS25 _ _ hv3, fine_toldD 1 sg age (by rw [List.length_drop]; omega) (fun l hl => hTs l (List.mem_of_mem_drop hl)), fun H26 hS26 => ?_⟩
              walk_at "rd"
              exact ⟨_, _, _, _, _, _, _, _, _, _, _, _, _, _, _, _, _, rfl, (hK8.same hS26).1⟩
    · walk_at "rd"
      exact q H'
end
end My

set_option Elab.async false
set_option linter.all false
set_option maxRecDepth 100000
set_option maxHeartbeats 1000000
namespace My
open PySem PySem.Spec PyProof.Rows L2
theorem rel_kb_told_log_0 {vs : List V} {us : List Value} {zs : List V} {ws : List Value} (r1 : Vals vs us) (r2 : Vals zs ws) : Vals (gV_kb_told_log_0 vs zs) (g_kb_told_log_0 us ws) := by
  cases r1 with
  | cons _ _ => exact .nil
  | nil =>
    cases r2 with
    | nil => exact .nil
    | cons y0 r2 =>
      cases r2 with
      | nil => exact .nil
      | cons y1 r2 =>
        cases r2 with
        | nil => exact .nil
        | cons y2 r2 =>
          cases r2 with
          | nil => exact .nil
          | cons y3 r2 =>
            cases r2 with
            | nil => exact .nil
            | cons y4 r2 =>
              cases r2 with
              | cons _ _ => exact .nil
              | nil =>
                exact (.cons y4 (.cons y3 (.cons y2 (.cons y1 (.cons y0 .nil)))))

theorem kbm_kb_told_log_0 {K : PySem.W.Frag} {f : Addr} {fd : FuncData} (F : Fun K "told_log" "told_log" s_told_log f fd) : KBinds K fd ["image", "signs", "first", "count", "age"] ["age", "count", "first", "signs", "image"] g_kb_told_log_0 gV_kb_told_log_0 := by
  obtain ⟨oc, od, kV, doc, pm, an, cdv, ct, osl, rfl, lk, hcd⟩ := F.ex
  refine ⟨fun s us ws _ hl => ?_, rel_kb_told_log_0⟩
  have hp : ∃ y0 y1 y2 y3 y4, us = [] ∧ ws = [y0, y1, y2, y3, y4] := by
    unfold g_kb_told_log_0 at hl
    split at hl
    · exact ⟨_, _, _, _, _, rfl, rfl⟩
    · cases hl
  obtain ⟨y0, y1, y2, y3, y4, rfl, rfl⟩ := hp
  exact BindsTo.of_eq rfl
def fx_mk {K : PySem.W.Frag} {h : Heap} {mg : Str → Option Value} (X : K.In h) (G : h.Ns mainGlobals mg)
    {f0 : Addr} {od0 an0 : Option Addr} {sl0 : Array (Option Value)} {oc0 kV0 dc0 pm0 cd0 ct0 : Value}
    (a0 : PySem.W.nsIn K mainGlobals "is_text" = some (some (.ref f0))) (l0 : K.lookup f0 = some ⟨oc0, od0, .func (PySem.W.fnOf "is_text" "is_text" (defArgs s_is_text) (defBody s_is_text) (defScope s_is_text) .none kV0 dc0 pm0 an0 cd0 ct0), sl0⟩) (c0 : PySem.W.codeIn K cd0 "is_text" = true) (k0 : PySem.W.keepIn K (.ref f0) = true)
    {f1 : Addr} {od1 an1 : Option Addr} {sl1 : Array (Option Value)} {oc1 kV1 dc1 pm1 cd1 ct1 : Value}
    (a1 : PySem.W.nsIn K mainGlobals "number_at" = some (some (.ref f1))) (l1 : K.lookup f1 = some ⟨oc1, od1, .func (PySem.W.fnOf "number_at" "number_at" (defArgs s_number_at) (defBody s_number_at) (defScope s_number_at) .none kV1 dc1 pm1 an1 cd1 ct1), sl1⟩) (c1 : PySem.W.codeIn K cd1 "number_at" = true) (k1 : PySem.W.keepIn K (.ref f1) = true)
    {f2 : Addr} {od2 an2 : Option Addr} {sl2 : Array (Option Value)} {oc2 kV2 dc2 pm2 cd2 ct2 : Value}
    (a2 : PySem.W.nsIn K mainGlobals "is_number" = some (some (.ref f2))) (l2 : K.lookup f2 = some ⟨oc2, od2, .func (PySem.W.fnOf "is_number" "is_number" (defArgs s_is_number) (defBody s_is_number) (defScope s_is_number) .none kV2 dc2 pm2 an2 cd2 ct2), sl2⟩) (c2 : PySem.W.codeIn K cd2 "is_number" = true) (k2 : PySem.W.keepIn K (.ref f2) = true)
    {f3 : Addr} {od3 an3 : Option Addr} {sl3 : Array (Option Value)} {oc3 kV3 dc3 pm3 cd3 ct3 : Value}
    (a3 : PySem.W.nsIn K mainGlobals "is_block" = some (some (.ref f3))) (l3 : K.lookup f3 = some ⟨oc3, od3, .func (PySem.W.fnOf "is_block" "is_block" (defArgs s_is_block) (defBody s_is_block) (defScope s_is_block) .none kV3 dc3 pm3 an3 cd3 ct3), sl3⟩) (c3 : PySem.W.codeIn K cd3 "is_block" = true) (k3 : PySem.W.keepIn K (.ref f3) = true)
    {f4 : Addr} {od4 an4 : Option Addr} {sl4 : Array (Option Value)} {oc4 kV4 dc4 pm4 cd4 ct4 : Value}
    (a4 : PySem.W.nsIn K mainGlobals "check_signs" = some (some (.ref f4))) (l4 : K.lookup f4 = some ⟨oc4, od4, .func (PySem.W.fnOf "check_signs" "check_signs" (defArgs s_check_signs) (defBody s_check_signs) (defScope s_check_signs) .none kV4 dc4 pm4 an4 cd4 ct4), sl4⟩) (c4 : PySem.W.codeIn K cd4 "check_signs" = true) (k4 : PySem.W.keepIn K (.ref f4) = true)
    {f5 : Addr} {od5 an5 : Option Addr} {sl5 : Array (Option Value)} {oc5 kV5 dc5 pm5 cd5 ct5 : Value}
    (a5 : PySem.W.nsIn K mainGlobals "check_image" = some (some (.ref f5))) (l5 : K.lookup f5 = some ⟨oc5, od5, .func (PySem.W.fnOf "check_image" "check_image" (defArgs s_check_image) (defBody s_check_image) (defScope s_check_image) .none kV5 dc5 pm5 an5 cd5 ct5), sl5⟩) (c5 : PySem.W.codeIn K cd5 "check_image" = true) (k5 : PySem.W.keepIn K (.ref f5) = true)
    {f6 : Addr} {od6 an6 : Option Addr} {sl6 : Array (Option Value)} {oc6 kV6 dc6 pm6 cd6 ct6 : Value}
    (a6 : PySem.W.nsIn K mainGlobals "check_count" = some (some (.ref f6))) (l6 : K.lookup f6 = some ⟨oc6, od6, .func (PySem.W.fnOf "check_count" "check_count" (defArgs s_check_count) (defBody s_check_count) (defScope s_check_count) .none kV6 dc6 pm6 an6 cd6 ct6), sl6⟩) (c6 : PySem.W.codeIn K cd6 "check_count" = true) (k6 : PySem.W.keepIn K (.ref f6) = true)
    {f7 : Addr} {od7 an7 : Option Addr} {sl7 : Array (Option Value)} {oc7 kV7 dc7 pm7 cd7 ct7 : Value}
    (a7 : PySem.W.nsIn K mainGlobals "check_age" = some (some (.ref f7))) (l7 : K.lookup f7 = some ⟨oc7, od7, .func (PySem.W.fnOf "check_age" "check_age" (defArgs s_check_age) (defBody s_check_age) (defScope s_check_age) .none kV7 dc7 pm7 an7 cd7 ct7), sl7⟩) (c7 : PySem.W.codeIn K cd7 "check_age" = true) (k7 : PySem.W.keepIn K (.ref f7) = true)
    {f8 : Addr} {od8 an8 : Option Addr} {sl8 : Array (Option Value)} {oc8 kV8 dc8 pm8 cd8 ct8 : Value}
    (a8 : PySem.W.nsIn K mainGlobals "check_area" = some (some (.ref f8))) (l8 : K.lookup f8 = some ⟨oc8, od8, .func (PySem.W.fnOf "check_area" "check_area" (defArgs s_check_area) (defBody s_check_area) (defScope s_check_area) .none kV8 dc8 pm8 an8 cd8 ct8), sl8⟩) (c8 : PySem.W.codeIn K cd8 "check_area" = true) (k8 : PySem.W.keepIn K (.ref f8) = true)
    {f9 : Addr} {od9 an9 : Option Addr} {sl9 : Array (Option Value)} {oc9 kV9 dc9 pm9 cd9 ct9 : Value}
    (a9 : PySem.W.nsIn K mainGlobals "piece_told" = some (some (.ref f9))) (l9 : K.lookup f9 = some ⟨oc9, od9, .func (PySem.W.fnOf "piece_told" "piece_told" (defArgs s_piece_told) (defBody s_piece_told) (defScope s_piece_told) .none kV9 dc9 pm9 an9 cd9 ct9), sl9⟩) (c9 : PySem.W.codeIn K cd9 "piece_told" = true) (k9 : PySem.W.keepIn K (.ref f9) = true)
    {f10 : Addr} {od10 an10 : Option Addr} {sl10 : Array (Option Value)} {oc10 kV10 dc10 pm10 cd10 ct10 : Value}
    (a10 : PySem.W.nsIn K mainGlobals "told_log" = some (some (.ref f10))) (l10 : K.lookup f10 = some ⟨oc10, od10, .func (PySem.W.fnOf "told_log" "told_log" (defArgs s_told_log) (defBody s_told_log) (defScope s_told_log) .none kV10 dc10 pm10 an10 cd10 ct10), sl10⟩) (c10 : PySem.W.codeIn K cd10 "told_log" = true) (k10 : PySem.W.keepIn K (.ref f10) = true)
    {f11 : Addr} {od11 an11 : Option Addr} {sl11 : Array (Option Value)} {oc11 kV11 dc11 pm11 cd11 ct11 : Value}
    (a11 : PySem.W.nsIn K mainGlobals "told_run" = some (some (.ref f11))) (l11 : K.lookup f11 = some ⟨oc11, od11, .func (PySem.W.fnOf "told_run" "told_run" (defArgs s_told_run) (defBody s_told_run) (defScope s_told_run) .none kV11 dc11 pm11 an11 cd11 ct11), sl11⟩) (c11 : PySem.W.codeIn K cd11 "told_run" = true) (k11 : PySem.W.keepIn K (.ref f11) = true)
    {f12 : Addr} {od12 an12 : Option Addr} {sl12 : Array (Option Value)} {oc12 kV12 dc12 pm12 cd12 ct12 : Value}
    (a12 : PySem.W.nsIn K mainGlobals "piece_of_age" = some (some (.ref f12))) (l12 : K.lookup f12 = some ⟨oc12, od12, .func (PySem.W.fnOf "piece_of_age" "piece_of_age" (defArgs s_piece_of_age) (defBody s_piece_of_age) (defScope s_piece_of_age) .none kV12 dc12 pm12 an12 cd12 ct12), sl12⟩) (c12 : PySem.W.codeIn K cd12 "piece_of_age" = true) (k12 : PySem.W.keepIn K (.ref f12) = true)
    {f13 : Addr} {od13 an13 : Option Addr} {sl13 : Array (Option Value)} {oc13 kV13 dc13 pm13 cd13 ct13 : Value}
    (a13 : PySem.W.nsIn K mainGlobals "told_record" = some (some (.ref f13))) (l13 : K.lookup f13 = some ⟨oc13, od13, .func (PySem.W.fnOf "told_record" "told_record" (defArgs s_told_record) (defBody s_told_record) (defScope s_told_record) .none kV13 dc13 pm13 an13 cd13 ct13), sl13⟩) (c13 : PySem.W.codeIn K cd13 "told_record" = true) (k13 : PySem.W.keepIn K (.ref f13) = true)
    {f14 : Addr} {od14 an14 : Option Addr} {sl14 : Array (Option Value)} {oc14 kV14 dc14 pm14 cd14 ct14 : Value}
    (a14 : PySem.W.nsIn K mainGlobals "_law_spring" = some (some (.ref f14))) (l14 : K.lookup f14 = some ⟨oc14, od14, .func (PySem.W.fnOf "_law_spring" "_law_spring" (defArgs s__law_spring) (defBody s__law_spring) (defScope s__law_spring) .none kV14 dc14 pm14 an14 cd14 ct14), sl14⟩) (c14 : PySem.W.codeIn K cd14 "_law_spring" = true) (k14 : PySem.W.keepIn K (.ref f14) = true)
    {f15 : Addr} {od15 an15 : Option Addr} {sl15 : Array (Option Value)} {oc15 kV15 dc15 pm15 cd15 ct15 : Value}
    (a15 : PySem.W.nsIn K mainGlobals "_law_drop" = some (some (.ref f15))) (l15 : K.lookup f15 = some ⟨oc15, od15, .func (PySem.W.fnOf "_law_drop" "_law_drop" (defArgs s__law_drop) (defBody s__law_drop) (defScope s__law_drop) .none kV15 dc15 pm15 an15 cd15 ct15), sl15⟩) (c15 : PySem.W.codeIn K cd15 "_law_drop" = true) (k15 : PySem.W.keepIn K (.ref f15) = true)
    {f16 : Addr} {od16 an16 : Option Addr} {sl16 : Array (Option Value)} {oc16 kV16 dc16 pm16 cd16 ct16 : Value}
    (a16 : PySem.W.nsIn K mainGlobals "_law_text" = some (some (.ref f16))) (l16 : K.lookup f16 = some ⟨oc16, od16, .func (PySem.W.fnOf "_law_text" "_law_text" (defArgs s__law_text) (defBody s__law_text) (defScope s__law_text) .none kV16 dc16 pm16 an16 cd16 ct16), sl16⟩) (c16 : PySem.W.codeIn K cd16 "_law_text" = true) (k16 : PySem.W.keepIn K (.ref f16) = true)
    {f17 : Addr} {od17 an17 : Option Addr} {sl17 : Array (Option Value)} {oc17 kV17 dc17 pm17 cd17 ct17 : Value}
    (a17 : PySem.W.nsIn K mainGlobals "_law_kinds" = some (some (.ref f17))) (l17 : K.lookup f17 = some ⟨oc17, od17, .func (PySem.W.fnOf "_law_kinds" "_law_kinds" (defArgs s__law_kinds) (defBody s__law_kinds) (defScope s__law_kinds) .none kV17 dc17 pm17 an17 cd17 ct17), sl17⟩) (c17 : PySem.W.codeIn K cd17 "_law_kinds" = true) (k17 : PySem.W.keepIn K (.ref f17) = true)
    {f18 : Addr} {od18 an18 : Option Addr} {sl18 : Array (Option Value)} {oc18 kV18 dc18 pm18 cd18 ct18 : Value}
    (a18 : PySem.W.nsIn K mainGlobals "_law_alike" = some (some (.ref f18))) (l18 : K.lookup f18 = some ⟨oc18, od18, .func (PySem.W.fnOf "_law_alike" "_law_alike" (defArgs s__law_alike) (defBody s__law_alike) (defScope s__law_alike) .none kV18 dc18 pm18 an18 cd18 ct18), sl18⟩) (c18 : PySem.W.codeIn K cd18 "_law_alike" = true) (k18 : PySem.W.keepIn K (.ref f18) = true)
    {f19 : Addr} {od19 an19 : Option Addr} {sl19 : Array (Option Value)} {oc19 kV19 dc19 pm19 cd19 ct19 : Value}
    (a19 : PySem.W.nsIn K mainGlobals "_law_piece" = some (some (.ref f19))) (l19 : K.lookup f19 = some ⟨oc19, od19, .func (PySem.W.fnOf "_law_piece" "_law_piece" (defArgs s__law_piece) (defBody s__law_piece) (defScope s__law_piece) .none kV19 dc19 pm19 an19 cd19 ct19), sl19⟩) (c19 : PySem.W.codeIn K cd19 "_law_piece" = true) (k19 : PySem.W.keepIn K (.ref f19) = true)
    {f20 : Addr} {od20 an20 : Option Addr} {sl20 : Array (Option Value)} {oc20 kV20 dc20 pm20 cd20 ct20 : Value}
    (a20 : PySem.W.nsIn K mainGlobals "_law_parts" = some (some (.ref f20))) (l20 : K.lookup f20 = some ⟨oc20, od20, .func (PySem.W.fnOf "_law_parts" "_law_parts" (defArgs s__law_parts) (defBody s__law_parts) (defScope s__law_parts) .none kV20 dc20 pm20 an20 cd20 ct20), sl20⟩) (c20 : PySem.W.codeIn K cd20 "_law_parts" = true) (k20 : PySem.W.keepIn K (.ref f20) = true)
    {f21 : Addr} {od21 an21 : Option Addr} {sl21 : Array (Option Value)} {oc21 kV21 dc21 pm21 cd21 ct21 : Value}
    (a21 : PySem.W.nsIn K mainGlobals "_law_read" = some (some (.ref f21))) (l21 : K.lookup f21 = some ⟨oc21, od21, .func (PySem.W.fnOf "_law_read" "_law_read" (defArgs s__law_read) (defBody s__law_read) (defScope s__law_read) .none kV21 dc21 pm21 an21 cd21 ct21), sl21⟩) (c21 : PySem.W.codeIn K cd21 "_law_read" = true) (k21 : PySem.W.keepIn K (.ref f21) = true)
    {f22 : Addr} {od22 an22 : Option Addr} {sl22 : Array (Option Value)} {oc22 kV22 dc22 pm22 cd22 ct22 : Value}
    (a22 : PySem.W.nsIn K mainGlobals "_law_told" = some (some (.ref f22))) (l22 : K.lookup f22 = some ⟨oc22, od22, .func (PySem.W.fnOf "_law_told" "_law_told" (defArgs s__law_told) (defBody s__law_told) (defScope s__law_told) .none kV22 dc22 pm22 an22 cd22 ct22), sl22⟩) (c22 : PySem.W.codeIn K cd22 "_law_told" = true) (k22 : PySem.W.keepIn K (.ref f22) = true)
    {f23 : Addr} {od23 an23 : Option Addr} {sl23 : Array (Option Value)} {oc23 kV23 dc23 pm23 cd23 ct23 : Value}
    (a23 : PySem.W.nsIn K mainGlobals "_law_area" = some (some (.ref f23))) (l23 : K.lookup f23 = some ⟨oc23, od23, .func (PySem.W.fnOf "_law_area" "_law_area" (defArgs s__law_area) (defBody s__law_area) (defScope s__law_area) .none kV23 dc23 pm23 an23 cd23 ct23), sl23⟩) (c23 : PySem.W.codeIn K cd23 "_law_area" = true) (k23 : PySem.W.keepIn K (.ref f23) = true)
    {f24 : Addr} {od24 an24 : Option Addr} {sl24 : Array (Option Value)} {oc24 kV24 dc24 pm24 cd24 ct24 : Value}
    (a24 : PySem.W.nsIn K mainGlobals "_law_six" = some (some (.ref f24))) (l24 : K.lookup f24 = some ⟨oc24, od24, .func (PySem.W.fnOf "_law_six" "_law_six" (defArgs s__law_six) (defBody s__law_six) (defScope s__law_six) .none kV24 dc24 pm24 an24 cd24 ct24), sl24⟩) (c24 : PySem.W.codeIn K cd24 "_law_six" = true) (k24 : PySem.W.keepIn K (.ref f24) = true)
    {f25 : Addr} {od25 an25 : Option Addr} {sl25 : Array (Option Value)} {oc25 kV25 dc25 pm25 cd25 ct25 : Value}
    (a25 : PySem.W.nsIn K mainGlobals "_law_spoilt" = some (some (.ref f25))) (l25 : K.lookup f25 = some ⟨oc25, od25, .func (PySem.W.fnOf "_law_spoilt" "_law_spoilt" (defArgs s__law_spoilt) (defBody s__law_spoilt) (defScope s__law_spoilt) .none kV25 dc25 pm25 an25 cd25 ct25), sl25⟩) (c25 : PySem.W.codeIn K cd25 "_law_spoilt" = true) (k25 : PySem.W.keepIn K (.ref f25) = true)
    {f26 : Addr} {od26 an26 : Option Addr} {sl26 : Array (Option Value)} {oc26 kV26 dc26 pm26 cd26 ct26 : Value}
    (a26 : PySem.W.nsIn K mainGlobals "law" = some (some (.ref f26))) (l26 : K.lookup f26 = some ⟨oc26, od26, .func (PySem.W.fnOf "law" "law" (defArgs s_law) (defBody s_law) (defScope s_law) .none kV26 dc26 pm26 an26 cd26 ct26), sl26⟩) (c26 : PySem.W.codeIn K cd26 "law" = true) (k26 : PySem.W.keepIn K (.ref f26) = true)
    (z0 : PySem.W.nsIn K mainGlobals "all" = some none)
    (z1 : PySem.W.nsIn K mainGlobals "bool" = some none)
    (z2 : PySem.W.nsIn K mainGlobals "int" = some none)
    (z3 : PySem.W.nsIn K mainGlobals "isinstance" = some none)
    (z4 : PySem.W.nsIn K mainGlobals "len" = some none)
    (z5 : PySem.W.nsIn K mainGlobals "list" = some none)
    (z6 : PySem.W.nsIn K mainGlobals "max" = some none)
    (z7 : PySem.W.nsIn K mainGlobals "min" = some none)
    (z8 : PySem.W.nsIn K mainGlobals "range" = some none)
    (z9 : PySem.W.nsIn K mainGlobals "str" = some none)
    (z10 : PySem.W.nsIn K mainGlobals "tuple" = some none)
    (z11 : PySem.W.nsIn K mainGlobals "type" = some none)
    {t0 : Tok} (q0 : PySem.W.nsIn K mainGlobals "PIECE_HEAD" = some (some (.int 19 t0))) : Fx K mg :=
  {a_is_text := f0, fd_is_text := _, F_is_text := fun_mk (st := s_is_text) l0 c0 k0, g_is_text := PySem.W.mg_of X G a0, b_is_text := (fun_mk (st := s_is_text) l0 c0 k0).binds (ps := ["value"]) fun _ _ _ _ _ _ us hl => match us, hl with | [_], _ => rfl,
    a_number_at := f1, fd_number_at := _, F_number_at := fun_mk (st := s_number_at) l1 c1 k1, g_number_at := PySem.W.mg_of X G a1, b_number_at := (fun_mk (st := s_number_at) l1 c1 k1).binds (ps := ["text", "at", "size"]) fun _ _ _ _ _ _ us hl => match us, hl with | [_, _, _], _ => rfl,
    a_is_number := f2, fd_is_number := _, F_is_number := fun_mk (st := s_is_number) l2 c2 k2, g_is_number := PySem.W.mg_of X G a2, b_is_number := (fun_mk (st := s_is_number) l2 c2 k2).binds (ps := ["value", "low", "high"]) fun _ _ _ _ _ _ us hl => match us, hl with | [_, _, _], _ => rfl,
    a_is_block := f3, fd_is_block := _, F_is_block := fun_mk (st := s_is_block) l3 c3 k3, g_is_block := PySem.W.mg_of X G a3, b_is_block := (fun_mk (st := s_is_block) l3 c3 k3).binds (ps := ["value", "signs"]) fun _ _ _ _ _ _ us hl => match us, hl with | [_, _], _ => rfl,
    a_check_signs := f4, fd_check_signs := _, F_check_signs := fun_mk (st := s_check_signs) l4 c4 k4, g_check_signs := PySem.W.mg_of X G a4, b_check_signs := (fun_mk (st := s_check_signs) l4 c4 k4).binds (ps := ["signs"]) fun _ _ _ _ _ _ us hl => match us, hl with | [_], _ => rfl,
    a_check_image := f5, fd_check_image := _, F_check_image := fun_mk (st := s_check_image) l5 c5 k5, g_check_image := PySem.W.mg_of X G a5, b_check_image := (fun_mk (st := s_check_image) l5 c5 k5).binds (ps := ["image", "signs"]) fun _ _ _ _ _ _ us hl => match us, hl with | [_, _], _ => rfl,
    a_check_count := f6, fd_check_count := _, F_check_count := fun_mk (st := s_check_count) l6 c6 k6, g_check_count := PySem.W.mg_of X G a6, b_check_count := (fun_mk (st := s_check_count) l6 c6 k6).binds (ps := ["value", "low", "high"]) fun _ _ _ _ _ _ us hl => match us, hl with | [_, _, _], _ => rfl,
    a_check_age := f7, fd_check_age := _, F_check_age := fun_mk (st := s_check_age) l7 c7 k7, g_check_age := PySem.W.mg_of X G a7, b_check_age := (fun_mk (st := s_check_age) l7 c7 k7).binds (ps := ["age"]) fun _ _ _ _ _ _ us hl => match us, hl with | [_], _ => rfl,
    a_check_area := f8, fd_check_area := _, F_check_area := fun_mk (st := s_check_area) l8 c8 k8, g_check_area := PySem.W.mg_of X G a8, b_check_area := (fun_mk (st := s_check_area) l8 c8 k8).binds (ps := ["first", "count", "many"]) fun _ _ _ _ _ _ us hl => match us, hl with | [_, _, _], _ => rfl,
    a_piece_told := f9, fd_piece_told := _, F_piece_told := fun_mk (st := s_piece_told) l9 c9 k9, g_piece_told := PySem.W.mg_of X G a9, b_piece_told := (fun_mk (st := s_piece_told) l9 c9 k9).binds (ps := ["block"]) fun _ _ _ _ _ _ us hl => match us, hl with | [_], _ => rfl,
    a_told_log := f10, fd_told_log := _, F_told_log := fun_mk (st := s_told_log) l10 c10 k10, g_told_log := PySem.W.mg_of X G a10, b_told_log := (fun_mk (st := s_told_log) l10 c10 k10).binds (ps := ["image", "signs", "first", "count", "age"]) fun _ _ _ _ _ _ us hl => match us, hl with | [_, _, _, _, _], _ => rfl,
    a_told_run := f11, fd_told_run := _, F_told_run := fun_mk (st := s_told_run) l11 c11 k11, g_told_run := PySem.W.mg_of X G a11, b_told_run := (fun_mk (st := s_told_run) l11 c11 k11).binds (ps := ["blocks", "signs", "age"]) fun _ _ _ _ _ _ us hl => match us, hl with | [_, _, _], _ => rfl,
    a_piece_of_age := f12, fd_piece_of_age := _, F_piece_of_age := fun_mk (st := s_piece_of_age) l12 c12 k12, g_piece_of_age := PySem.W.mg_of X G a12, b_piece_of_age := (fun_mk (st := s_piece_of_age) l12 c12 k12).binds (ps := ["block", "age"]) fun _ _ _ _ _ _ us hl => match us, hl with | [_, _], _ => rfl,
    a_told_record := f13, fd_told_record := _, F_told_record := fun_mk (st := s_told_record) l13 c13 k13, g_told_record := PySem.W.mg_of X G a13, b_told_record := (fun_mk (st := s_told_record) l13 c13 k13).binds (ps := ["pieces", "signs", "start", "least"]) fun _ _ _ _ _ _ us hl => match us, hl with | [_, _, _, _], _ => rfl,
    a__law_spring := f14, fd__law_spring := _, F__law_spring := fun_mk (st := s__law_spring) l14 c14 k14, g__law_spring := PySem.W.mg_of X G a14, b__law_spring := (fun_mk (st := s__law_spring) l14 c14 k14).binds (ps := ["_law_script"]) fun _ _ _ _ _ _ us hl => match us, hl with | [_], _ => rfl,
    a__law_drop := f15, fd__law_drop := _, F__law_drop := fun_mk (st := s__law_drop) l15 c15 k15, g__law_drop := PySem.W.mg_of X G a15, b__law_drop := (fun_mk (st := s__law_drop) l15 c15 k15).binds (ps := ["_law_spring_here", "_law_many"]) fun _ _ _ _ _ _ us hl => match us, hl with | [_, _], _ => rfl,
    a__law_text := f16, fd__law_text := _, F__law_text := fun_mk (st := s__law_text) l16 c16 k16, g__law_text := PySem.W.mg_of X G a16, b__law_text := (fun_mk (st := s__law_text) l16 c16 k16).binds (ps := ["_law_spring_here", "_law_size"]) fun _ _ _ _ _ _ us hl => match us, hl with | [_, _], _ => rfl,
    a__law_kinds := f17, fd__law_kinds := _, F__law_kinds := fun_mk (st := s__law_kinds) l17 c17 k17, g__law_kinds := PySem.W.mg_of X G a17, b__law_kinds := (fun_mk (st := s__law_kinds) l17 c17 k17).binds (ps := ["_law_thing"]) fun _ _ _ _ _ _ us hl => match us, hl with | [_], _ => rfl,
    a__law_alike := f18, fd__law_alike := _, F__law_alike := fun_mk (st := s__law_alike) l18 c18 k18, g__law_alike := PySem.W.mg_of X G a18, b__law_alike := (fun_mk (st := s__law_alike) l18 c18 k18).binds (ps := ["_law_found", "_law_due"]) fun _ _ _ _ _ _ us hl => match us, hl with | [_, _], _ => rfl,
    a__law_piece := f19, fd__law_piece := _, F__law_piece := fun_mk (st := s__law_piece) l19 c19 k19, g__law_piece := PySem.W.mg_of X G a19, b__law_piece := (fun_mk (st := s__law_piece) l19 c19 k19).binds (ps := ["_law_age", "_law_number", "_law_writer", "_law_sign", "_law_part"]) fun _ _ _ _ _ _ us hl => match us, hl with | [_, _, _, _, _], _ => rfl,
    a__law_parts := f20, fd__law_parts := _, F__law_parts := fun_mk (st := s__law_parts) l20 c20 k20, g__law_parts := PySem.W.mg_of X G a20, b__law_parts := (fun_mk (st := s__law_parts) l20 c20 k20).binds (ps := ["_law_record", "_law_signs"]) fun _ _ _ _ _ _ us hl => match us, hl with | [_, _], _ => rfl,
    a__law_read := f21, fd__law_read := _, F__law_read := fun_mk (st := s__law_read) l21 c21 k21, g__law_read := PySem.W.mg_of X G a21, b__law_read := (fun_mk (st := s__law_read) l21 c21 k21).binds (ps := ["_law_block"]) fun _ _ _ _ _ _ us hl => match us, hl with | [_], _ => rfl,
    a__law_told := f22, fd__law_told := _, F__law_told := fun_mk (st := s__law_told) l22 c22 k22, g__law_told := PySem.W.mg_of X G a22, b__law_told := (fun_mk (st := s__law_told) l22 c22 k22).binds (ps := ["_law_blocks", "_law_signs", "_law_age"]) fun _ _ _ _ _ _ us hl => match us, hl with | [_, _, _], _ => rfl,
    a__law_area := f23, fd__law_area := _, F__law_area := fun_mk (st := s__law_area) l23 c23 k23, g__law_area := PySem.W.mg_of X G a23, b__law_area := (fun_mk (st := s__law_area) l23 c23 k23).binds (ps := ["_law_spring_here", "_law_signs", "_law_age", "_law_count"]) fun _ _ _ _ _ _ us hl => match us, hl with | [_, _, _, _], _ => rfl,
    a__law_six := f24, fd__law_six := _, F__law_six := fun_mk (st := s__law_six) l24 c24 k24, g__law_six := PySem.W.mg_of X G a24, b__law_six := (fun_mk (st := s__law_six) l24 c24 k24).binds (ps := ["_law_number"]) fun _ _ _ _ _ _ us hl => match us, hl with | [_], _ => rfl,
    a__law_spoilt := f25, fd__law_spoilt := _, F__law_spoilt := fun_mk (st := s__law_spoilt) l25 c25 k25, g__law_spoilt := PySem.W.mg_of X G a25, b__law_spoilt := (fun_mk (st := s__law_spoilt) l25 c25 k25).binds (ps := ["_law_spring_here", "_law_block", "_law_signs"]) fun _ _ _ _ _ _ us hl => match us, hl with | [_, _, _], _ => rfl,
    a_law := f26, fd_law := _, F_law := fun_mk (st := s_law) l26 c26 k26, g_law := PySem.W.mg_of X G a26, b_law := (fun_mk (st := s_law) l26 c26 k26).binds (ps := ["_law_script"]) fun _ _ _ _ _ _ us hl => match us, hl with | [_], _ => rfl,
    kb_told_log_0 := kbm_kb_told_log_0 (fun_mk (st := s_told_log) l10 c10 k10),
    m_all := PySem.W.mg_none_of X G z0,
    m_bool := PySem.W.mg_none_of X G z1,
    m_int := PySem.W.mg_none_of X G z2,
    m_isinstance := PySem.W.mg_none_of X G z3,
    m_len := PySem.W.mg_none_of X G z4,
    m_list := PySem.W.mg_none_of X G z5,
    m_max := PySem.W.mg_none_of X G z6,
    m_min := PySem.W.mg_none_of X G z7,
    m_range := PySem.W.mg_none_of X G z8,
    m_str := PySem.W.mg_none_of X G z9,
    m_tuple := PySem.W.mg_none_of X G z10,
    m_type := PySem.W.mg_none_of X G z11,
    c_PIECE_HEAD := ⟨t0, PySem.W.mg_of X G q0⟩ }
theorem all_mk {l : PySem.W.OpenLaw} {w : World} {K : PySem.W.Frag} {h : Heap} {mg : Str → Option Value} {fa : Addr} (X : K.In h) (G : h.Ns mainGlobals mg) (hfa : mg "law" = some (.ref fa))
    {f0 : Addr} {od0 an0 : Option Addr} {sl0 : Array (Option Value)} {oc0 kV0 dc0 pm0 cd0 ct0 : Value}
    (a0 : PySem.W.nsIn K mainGlobals "is_text" = some (some (.ref f0))) (l0 : K.lookup f0 = some ⟨oc0, od0, .func (PySem.W.fnOf "is_text" "is_text" (defArgs s_is_text) (defBody s_is_text) (defScope s_is_text) .none kV0 dc0 pm0 an0 cd0 ct0), sl0⟩) (c0 : PySem.W.codeIn K cd0 "is_text" = true) (k0 : PySem.W.keepIn K (.ref f0) = true)
    {f1 : Addr} {od1 an1 : Option Addr} {sl1 : Array (Option Value)} {oc1 kV1 dc1 pm1 cd1 ct1 : Value}
    (a1 : PySem.W.nsIn K mainGlobals "number_at" = some (some (.ref f1))) (l1 : K.lookup f1 = some ⟨oc1, od1, .func (PySem.W.fnOf "number_at" "number_at" (defArgs s_number_at) (defBody s_number_at) (defScope s_number_at) .none kV1 dc1 pm1 an1 cd1 ct1), sl1⟩) (c1 : PySem.W.codeIn K cd1 "number_at" = true) (k1 : PySem.W.keepIn K (.ref f1) = true)
    {f2 : Addr} {od2 an2 : Option Addr} {sl2 : Array (Option Value)} {oc2 kV2 dc2 pm2 cd2 ct2 : Value}
    (a2 : PySem.W.nsIn K mainGlobals "is_number" = some (some (.ref f2))) (l2 : K.lookup f2 = some ⟨oc2, od2, .func (PySem.W.fnOf "is_number" "is_number" (defArgs s_is_number) (defBody s_is_number) (defScope s_is_number) .none kV2 dc2 pm2 an2 cd2 ct2), sl2⟩) (c2 : PySem.W.codeIn K cd2 "is_number" = true) (k2 : PySem.W.keepIn K (.ref f2) = true)
    {f3 : Addr} {od3 an3 : Option Addr} {sl3 : Array (Option Value)} {oc3 kV3 dc3 pm3 cd3 ct3 : Value}
    (a3 : PySem.W.nsIn K mainGlobals "is_block" = some (some (.ref f3))) (l3 : K.lookup f3 = some ⟨oc3, od3, .func (PySem.W.fnOf "is_block" "is_block" (defArgs s_is_block) (defBody s_is_block) (defScope s_is_block) .none kV3 dc3 pm3 an3 cd3 ct3), sl3⟩) (c3 : PySem.W.codeIn K cd3 "is_block" = true) (k3 : PySem.W.keepIn K (.ref f3) = true)
    {f4 : Addr} {od4 an4 : Option Addr} {sl4 : Array (Option Value)} {oc4 kV4 dc4 pm4 cd4 ct4 : Value}
    (a4 : PySem.W.nsIn K mainGlobals "check_signs" = some (some (.ref f4))) (l4 : K.lookup f4 = some ⟨oc4, od4, .func (PySem.W.fnOf "check_signs" "check_signs" (defArgs s_check_signs) (defBody s_check_signs) (defScope s_check_signs) .none kV4 dc4 pm4 an4 cd4 ct4), sl4⟩) (c4 : PySem.W.codeIn K cd4 "check_signs" = true) (k4 : PySem.W.keepIn K (.ref f4) = true)
    {f5 : Addr} {od5 an5 : Option Addr} {sl5 : Array (Option Value)} {oc5 kV5 dc5 pm5 cd5 ct5 : Value}
    (a5 : PySem.W.nsIn K mainGlobals "check_image" = some (some (.ref f5))) (l5 : K.lookup f5 = some ⟨oc5, od5, .func (PySem.W.fnOf "check_image" "check_image" (defArgs s_check_image) (defBody s_check_image) (defScope s_check_image) .none kV5 dc5 pm5 an5 cd5 ct5), sl5⟩) (c5 : PySem.W.codeIn K cd5 "check_image" = true) (k5 : PySem.W.keepIn K (.ref f5) = true)
    {f6 : Addr} {od6 an6 : Option Addr} {sl6 : Array (Option Value)} {oc6 kV6 dc6 pm6 cd6 ct6 : Value}
    (a6 : PySem.W.nsIn K mainGlobals "check_count" = some (some (.ref f6))) (l6 : K.lookup f6 = some ⟨oc6, od6, .func (PySem.W.fnOf "check_count" "check_count" (defArgs s_check_count) (defBody s_check_count) (defScope s_check_count) .none kV6 dc6 pm6 an6 cd6 ct6), sl6⟩) (c6 : PySem.W.codeIn K cd6 "check_count" = true) (k6 : PySem.W.keepIn K (.ref f6) = true)
    {f7 : Addr} {od7 an7 : Option Addr} {sl7 : Array (Option Value)} {oc7 kV7 dc7 pm7 cd7 ct7 : Value}
    (a7 : PySem.W.nsIn K mainGlobals "check_age" = some (some (.ref f7))) (l7 : K.lookup f7 = some ⟨oc7, od7, .func (PySem.W.fnOf "check_age" "check_age" (defArgs s_check_age) (defBody s_check_age) (defScope s_check_age) .none kV7 dc7 pm7 an7 cd7 ct7), sl7⟩) (c7 : PySem.W.codeIn K cd7 "check_age" = true) (k7 : PySem.W.keepIn K (.ref f7) = true)
    {f8 : Addr} {od8 an8 : Option Addr} {sl8 : Array (Option Value)} {oc8 kV8 dc8 pm8 cd8 ct8 : Value}
    (a8 : PySem.W.nsIn K mainGlobals "check_area" = some (some (.ref f8))) (l8 : K.lookup f8 = some ⟨oc8, od8, .func (PySem.W.fnOf "check_area" "check_area" (defArgs s_check_area) (defBody s_check_area) (defScope s_check_area) .none kV8 dc8 pm8 an8 cd8 ct8), sl8⟩) (c8 : PySem.W.codeIn K cd8 "check_area" = true) (k8 : PySem.W.keepIn K (.ref f8) = true)
    {f9 : Addr} {od9 an9 : Option Addr} {sl9 : Array (Option Value)} {oc9 kV9 dc9 pm9 cd9 ct9 : Value}
    (a9 : PySem.W.nsIn K mainGlobals "piece_told" = some (some (.ref f9))) (l9 : K.lookup f9 = some ⟨oc9, od9, .func (PySem.W.fnOf "piece_told" "piece_told" (defArgs s_piece_told) (defBody s_piece_told) (defScope s_piece_told) .none kV9 dc9 pm9 an9 cd9 ct9), sl9⟩) (c9 : PySem.W.codeIn K cd9 "piece_told" = true) (k9 : PySem.W.keepIn K (.ref f9) = true)
    {f10 : Addr} {od10 an10 : Option Addr} {sl10 : Array (Option Value)} {oc10 kV10 dc10 pm10 cd10 ct10 : Value}
    (a10 : PySem.W.nsIn K mainGlobals "told_log" = some (some (.ref f10))) (l10 : K.lookup f10 = some ⟨oc10, od10, .func (PySem.W.fnOf "told_log" "told_log" (defArgs s_told_log) (defBody s_told_log) (defScope s_told_log) .none kV10 dc10 pm10 an10 cd10 ct10), sl10⟩) (c10 : PySem.W.codeIn K cd10 "told_log" = true) (k10 : PySem.W.keepIn K (.ref f10) = true)
    {f11 : Addr} {od11 an11 : Option Addr} {sl11 : Array (Option Value)} {oc11 kV11 dc11 pm11 cd11 ct11 : Value}
    (a11 : PySem.W.nsIn K mainGlobals "told_run" = some (some (.ref f11))) (l11 : K.lookup f11 = some ⟨oc11, od11, .func (PySem.W.fnOf "told_run" "told_run" (defArgs s_told_run) (defBody s_told_run) (defScope s_told_run) .none kV11 dc11 pm11 an11 cd11 ct11), sl11⟩) (c11 : PySem.W.codeIn K cd11 "told_run" = true) (k11 : PySem.W.keepIn K (.ref f11) = true)
    {f12 : Addr} {od12 an12 : Option Addr} {sl12 : Array (Option Value)} {oc12 kV12 dc12 pm12 cd12 ct12 : Value}
    (a12 : PySem.W.nsIn K mainGlobals "piece_of_age" = some (some (.ref f12))) (l12 : K.lookup f12 = some ⟨oc12, od12, .func (PySem.W.fnOf "piece_of_age" "piece_of_age" (defArgs s_piece_of_age) (defBody s_piece_of_age) (defScope s_piece_of_age) .none kV12 dc12 pm12 an12 cd12 ct12), sl12⟩) (c12 : PySem.W.codeIn K cd12 "piece_of_age" = true) (k12 : PySem.W.keepIn K (.ref f12) = true)
    {f13 : Addr} {od13 an13 : Option Addr} {sl13 : Array (Option Value)} {oc13 kV13 dc13 pm13 cd13 ct13 : Value}
    (a13 : PySem.W.nsIn K mainGlobals "told_record" = some (some (.ref f13))) (l13 : K.lookup f13 = some ⟨oc13, od13, .func (PySem.W.fnOf "told_record" "told_record" (defArgs s_told_record) (defBody s_told_record) (defScope s_told_record) .none kV13 dc13 pm13 an13 cd13 ct13), sl13⟩) (c13 : PySem.W.codeIn K cd13 "told_record" = true) (k13 : PySem.W.keepIn K (.ref f13) = true)
    {f14 : Addr} {od14 an14 : Option Addr} {sl14 : Array (Option Value)} {oc14 kV14 dc14 pm14 cd14 ct14 : Value}
    (a14 : PySem.W.nsIn K mainGlobals "_law_spring" = some (some (.ref f14))) (l14 : K.lookup f14 = some ⟨oc14, od14, .func (PySem.W.fnOf "_law_spring" "_law_spring" (defArgs s__law_spring) (defBody s__law_spring) (defScope s__law_spring) .none kV14 dc14 pm14 an14 cd14 ct14), sl14⟩) (c14 : PySem.W.codeIn K cd14 "_law_spring" = true) (k14 : PySem.W.keepIn K (.ref f14) = true)
    {f15 : Addr} {od15 an15 : Option Addr} {sl15 : Array (Option Value)} {oc15 kV15 dc15 pm15 cd15 ct15 : Value}
    (a15 : PySem.W.nsIn K mainGlobals "_law_drop" = some (some (.ref f15))) (l15 : K.lookup f15 = some ⟨oc15, od15, .func (PySem.W.fnOf "_law_drop" "_law_drop" (defArgs s__law_drop) (defBody s__law_drop) (defScope s__law_drop) .none kV15 dc15 pm15 an15 cd15 ct15), sl15⟩) (c15 : PySem.W.codeIn K cd15 "_law_drop" = true) (k15 : PySem.W.keepIn K (.ref f15) = true)
    {f16 : Addr} {od16 an16 : Option Addr} {sl16 : Array (Option Value)} {oc16 kV16 dc16 pm16 cd16 ct16 : Value}
    (a16 : PySem.W.nsIn K mainGlobals "_law_text" = some (some (.ref f16))) (l16 : K.lookup f16 = some ⟨oc16, od16, .func (PySem.W.fnOf "_law_text" "_law_text" (defArgs s__law_text) (defBody s__law_text) (defScope s__law_text) .none kV16 dc16 pm16 an16 cd16 ct16), sl16⟩) (c16 : PySem.W.codeIn K cd16 "_law_text" = true) (k16 : PySem.W.keepIn K (.ref f16) = true)
    {f17 : Addr} {od17 an17 : Option Addr} {sl17 : Array (Option Value)} {oc17 kV17 dc17 pm17 cd17 ct17 : Value}
    (a17 : PySem.W.nsIn K mainGlobals "_law_kinds" = some (some (.ref f17))) (l17 : K.lookup f17 = some ⟨oc17, od17, .func (PySem.W.fnOf "_law_kinds" "_law_kinds" (defArgs s__law_kinds) (defBody s__law_kinds) (defScope s__law_kinds) .none kV17 dc17 pm17 an17 cd17 ct17), sl17⟩) (c17 : PySem.W.codeIn K cd17 "_law_kinds" = true) (k17 : PySem.W.keepIn K (.ref f17) = true)
    {f18 : Addr} {od18 an18 : Option Addr} {sl18 : Array (Option Value)} {oc18 kV18 dc18 pm18 cd18 ct18 : Value}
    (a18 : PySem.W.nsIn K mainGlobals "_law_alike" = some (some (.ref f18))) (l18 : K.lookup f18 = some ⟨oc18, od18, .func (PySem.W.fnOf "_law_alike" "_law_alike" (defArgs s__law_alike) (defBody s__law_alike) (defScope s__law_alike) .none kV18 dc18 pm18 an18 cd18 ct18), sl18⟩) (c18 : PySem.W.codeIn K cd18 "_law_alike" = true) (k18 : PySem.W.keepIn K (.ref f18) = true)
    {f19 : Addr} {od19 an19 : Option Addr} {sl19 : Array (Option Value)} {oc19 kV19 dc19 pm19 cd19 ct19 : Value}
    (a19 : PySem.W.nsIn K mainGlobals "_law_piece" = some (some (.ref f19))) (l19 : K.lookup f19 = some ⟨oc19, od19, .func (PySem.W.fnOf "_law_piece" "_law_piece" (defArgs s__law_piece) (defBody s__law_piece) (defScope s__law_piece) .none kV19 dc19 pm19 an19 cd19 ct19), sl19⟩) (c19 : PySem.W.codeIn K cd19 "_law_piece" = true) (k19 : PySem.W.keepIn K (.ref f19) = true)
    {f20 : Addr} {od20 an20 : Option Addr} {sl20 : Array (Option Value)} {oc20 kV20 dc20 pm20 cd20 ct20 : Value}
    (a20 : PySem.W.nsIn K mainGlobals "_law_parts" = some (some (.ref f20))) (l20 : K.lookup f20 = some ⟨oc20, od20, .func (PySem.W.fnOf "_law_parts" "_law_parts" (defArgs s__law_parts) (defBody s__law_parts) (defScope s__law_parts) .none kV20 dc20 pm20 an20 cd20 ct20), sl20⟩) (c20 : PySem.W.codeIn K cd20 "_law_parts" = true) (k20 : PySem.W.keepIn K (.ref f20) = true)
    {f21 : Addr} {od21 an21 : Option Addr} {sl21 : Array (Option Value)} {oc21 kV21 dc21 pm21 cd21 ct21 : Value}
    (a21 : PySem.W.nsIn K mainGlobals "_law_read" = some (some (.ref f21))) (l21 : K.lookup f21 = some ⟨oc21, od21, .func (PySem.W.fnOf "_law_read" "_law_read" (defArgs s__law_read) (defBody s__law_read) (defScope s__law_read) .none kV21 dc21 pm21 an21 cd21 ct21), sl21⟩) (c21 : PySem.W.codeIn K cd21 "_law_read" = true) (k21 : PySem.W.keepIn K (.ref f21) = true)
    {f22 : Addr} {od22 an22 : Option Addr} {sl22 : Array (Option Value)} {oc22 kV22 dc22 pm22 cd22 ct22 : Value}
    (a22 : PySem.W.nsIn K mainGlobals "_law_told" = some (some (.ref f22))) (l22 : K.lookup f22 = some ⟨oc22, od22, .func (PySem.W.fnOf "_law_told" "_law_told" (defArgs s__law_told) (defBody s__law_told) (defScope s__law_told) .none kV22 dc22 pm22 an22 cd22 ct22), sl22⟩) (c22 : PySem.W.codeIn K cd22 "_law_told" = true) (k22 : PySem.W.keepIn K (.ref f22) = true)
    {f23 : Addr} {od23 an23 : Option Addr} {sl23 : Array (Option Value)} {oc23 kV23 dc23 pm23 cd23 ct23 : Value}
    (a23 : PySem.W.nsIn K mainGlobals "_law_area" = some (some (.ref f23))) (l23 : K.lookup f23 = some ⟨oc23, od23, .func (PySem.W.fnOf "_law_area" "_law_area" (defArgs s__law_area) (defBody s__law_area) (defScope s__law_area) .none kV23 dc23 pm23 an23 cd23 ct23), sl23⟩) (c23 : PySem.W.codeIn K cd23 "_law_area" = true) (k23 : PySem.W.keepIn K (.ref f23) = true)
    {f24 : Addr} {od24 an24 : Option Addr} {sl24 : Array (Option Value)} {oc24 kV24 dc24 pm24 cd24 ct24 : Value}
    (a24 : PySem.W.nsIn K mainGlobals "_law_six" = some (some (.ref f24))) (l24 : K.lookup f24 = some ⟨oc24, od24, .func (PySem.W.fnOf "_law_six" "_law_six" (defArgs s__law_six) (defBody s__law_six) (defScope s__law_six) .none kV24 dc24 pm24 an24 cd24 ct24), sl24⟩) (c24 : PySem.W.codeIn K cd24 "_law_six" = true) (k24 : PySem.W.keepIn K (.ref f24) = true)
    {f25 : Addr} {od25 an25 : Option Addr} {sl25 : Array (Option Value)} {oc25 kV25 dc25 pm25 cd25 ct25 : Value}
    (a25 : PySem.W.nsIn K mainGlobals "_law_spoilt" = some (some (.ref f25))) (l25 : K.lookup f25 = some ⟨oc25, od25, .func (PySem.W.fnOf "_law_spoilt" "_law_spoilt" (defArgs s__law_spoilt) (defBody s__law_spoilt) (defScope s__law_spoilt) .none kV25 dc25 pm25 an25 cd25 ct25), sl25⟩) (c25 : PySem.W.codeIn K cd25 "_law_spoilt" = true) (k25 : PySem.W.keepIn K (.ref f25) = true)
    {f26 : Addr} {od26 an26 : Option Addr} {sl26 : Array (Option Value)} {oc26 kV26 dc26 pm26 cd26 ct26 : Value}
    (a26 : PySem.W.nsIn K mainGlobals "law" = some (some (.ref f26))) (l26 : K.lookup f26 = some ⟨oc26, od26, .func (PySem.W.fnOf "law" "law" (defArgs s_law) (defBody s_law) (defScope s_law) .none kV26 dc26 pm26 an26 cd26 ct26), sl26⟩) (c26 : PySem.W.codeIn K cd26 "law" = true) (k26 : PySem.W.keepIn K (.ref f26) = true)
    (z0 : PySem.W.nsIn K mainGlobals "all" = some none)
    (z1 : PySem.W.nsIn K mainGlobals "bool" = some none)
    (z2 : PySem.W.nsIn K mainGlobals "int" = some none)
    (z3 : PySem.W.nsIn K mainGlobals "isinstance" = some none)
    (z4 : PySem.W.nsIn K mainGlobals "len" = some none)
    (z5 : PySem.W.nsIn K mainGlobals "list" = some none)
    (z6 : PySem.W.nsIn K mainGlobals "max" = some none)
    (z7 : PySem.W.nsIn K mainGlobals "min" = some none)
    (z8 : PySem.W.nsIn K mainGlobals "range" = some none)
    (z9 : PySem.W.nsIn K mainGlobals "str" = some none)
    (z10 : PySem.W.nsIn K mainGlobals "tuple" = some none)
    (z11 : PySem.W.nsIn K mainGlobals "type" = some none)
    {t0 : Tok} (q0 : PySem.W.nsIn K mainGlobals "PIECE_HEAD" = some (some (.int 19 t0))) :
    ∃ fd : FuncData, (∀ (s : Shared) (v : Value), BindsTo s fd ⟨[v], []⟩ [("_law_script", v)]) ∧ ∀ base : Heap, K.In base → base.Ns mainGlobals mg → FnOk l.prog w K mg base CX0 6 fa fd ["_law_script"] (spLaw K) := by
  have e := hfa.symm.trans (PySem.W.mg_of X G a26)
  cases e
  have Y := fx_mk X G a0 l0 c0 k0 a1 l1 c1 k1 a2 l2 c2 k2 a3 l3 c3 k3 a4 l4 c4 k4 a5 l5 c5 k5 a6 l6 c6 k6 a7 l7 c7 k7 a8 l8 c8 k8 a9 l9 c9 k9 a10 l10 c10 k10 a11 l11 c11 k11 a12 l12 c12 k12 a13 l13 c13 k13 a14 l14 c14 k14 a15 l15 c15 k15 a16 l16 c16 k16 a17 l17 c17 k17 a18 l18 c18 k18 a19 l19 c19 k19 a20 l20 c20 k20 a21 l21 c21 k21 a22 l22 c22 k22 a23 l23 c23 k23 a24 l24 c24 k24 a25 l25 c25 k25 a26 l26 c26 k26 z0 z1 z2 z3 z4 z5 z6 z7 z8 z9 z10 z11 q0
  exact ⟨PySem.W.fnOf "law" "law" (defArgs s_law) (defBody s_law) (defScope s_law) .none kV26 dc26 pm26 an26 cd26 ct26, fun s v => .of_eq rfl, fun base _ _ => ok_law (fx_mk X G a0 l0 c0 k0 a1 l1 c1 k1 a2 l2 c2 k2 a3 l3 c3 k3 a4 l4 c4 k4 a5 l5 c5 k5 a6 l6 c6 k6 a7 l7 c7 k7 a8 l8 c8 k8 a9 l9 c9 k9 a10 l10 c10 k10 a11 l11 c11 k11 a12 l12 c12 k12 a13 l13 c13 k13 a14 l14 c14 k14 a15 l15 c15 k15 a16 l16 c16 k16 a17 l17 c17 k17 a18 l18 c18 k18 a19 l19 c19 k19 a20 l20 c20 k20 a21 l21 c21 k21 a22 l22 c22 k22 a23 l23 c23 k23 a24 l24 c24 k24 a25 l25 c25 k25 a26 l26 c26 k26 z0 z1 z2 z3 z4 z5 z6 z7 z8 z9 z10 z11 q0)⟩
end My
open PySem PySem.W PyProof.Rows
set_option maxHeartbeats 0 in
theorem PySem.Challenge.cw_heldpasts_k03_told_logs_holds : PySem.Challenge.rw_heldpasts_k03_told_logs.Holds := by
  w_on; o_law; k_head; (case hw => w_witness2)
  k_fill
  refine L2.walk_of (l := PySem.Challenge.rw_heldpasts_k03_told_logs) (n := 63) (k := 6) (x := "_law_script") (CX := fun _ => L2.CX0) (sp := fun w => My.spLaw _) rfl (by decide) rfl ⟨rfl, by decide, by decide⟩ (fun w h Y => PySem.W.kIn_of Y) ?F (fun _ _ a ns hl _ hS => ⟨a, ns, rfl, hS, hl, fun _ => rfl⟩) (fun _ _ _ _ _ h => h)
  case F =>
    intro w mg fa h KX G hmg
    refine' My.all_mk KX G hmg ?a0 ?l0 ?c0 ?k0 ?a1 ?l1 ?c1 ?k1 ?a2 ?l2 ?c2 ?k2 ?a3 ?l3 ?c3 ?k3 ?a4 ?l4 ?c4 ?k4 ?a5 ?l5 ?c5 ?k5 ?a6 ?l6 ?c6 ?k6 ?a7 ?l7 ?c7 ?k7 ?a8 ?l8 ?c8 ?k8 ?a9 ?l9 ?c9 ?k9 ?a10 ?l10 ?c10 ?k10 ?a11 ?l11 ?c11 ?k11 ?a12 ?l12 ?c12 ?k12 ?a13 ?l13 ?c13 ?k13 ?a14 ?l14 ?c14 ?k14 ?a15 ?l15 ?c15 ?k15 ?a16 ?l16 ?c16 ?k16 ?a17 ?l17 ?c17 ?k17 ?a18 ?l18 ?c18 ?k18 ?a19 ?l19 ?c19 ?k19 ?a20 ?l20 ?c20 ?k20 ?a21 ?l21 ?c21 ?k21 ?a22 ?l22 ?c22 ?k22 ?a23 ?l23 ?c23 ?k23 ?a24 ?l24 ?c24 ?k24 ?a25 ?l25 ?c25 ?k25 ?a26 ?l26 ?c26 ?k26 ?z0 ?z1 ?z2 ?z3 ?z4 ?z5 ?z6 ?z7 ?z8 ?z9 ?z10 ?z11 ?q0
    (case a0 => k_is); (case l0 => k_is); (case c0 => k_is); (case k0 => k_is); (case a1 => k_is); (case l1 => k_is); (case c1 => k_is); (case k1 => k_is); (case a2 => k_is); (case l2 => k_is); (case c2 => k_is); (case k2 => k_is); (case a3 => k_is); (case l3 => k_is); (case c3 => k_is); (case k3 => k_is); (case a4 => k_is); (case l4 => k_is); (case c4 => k_is); (case k4 => k_is); (case a5 => k_is); (case l5 => k_is); (case c5 => k_is); (case k5 => k_is); (case a6 => k_is); (case l6 => k_is); (case c6 => k_is); (case k6 => k_is); (case a7 => k_is); (case l7 => k_is); (case c7 => k_is); (case k7 => k_is); (case a8 => k_is); (case l8 => k_is); (case c8 => k_is); (case k8 => k_is); (case a9 => k_is); (case l9 => k_is); (case c9 => k_is); (case k9 => k_is); (case a10 => k_is); (case l10 => k_is); (case c10 => k_is); (case k10 => k_is); (case a11 => k_is); (case l11 => k_is); (case c11 => k_is); (case k11 => k_is); (case a12 => k_is); (case l12 => k_is); (case c12 => k_is); (case k12 => k_is); (case a13 => k_is); (case l13 => k_is); (case c13 => k_is); (case k13 => k_is); (case a14 => k_is); (case l14 => k_is); (case c14 => k_is); (case k14 => k_is); (case a15 => k_is); (case l15 => k_is); (case c15 => k_is); (case k15 => k_is); (case a16 => k_is); (case l16 => k_is); (case c16 => k_is); (case k16 => k_is); (case a17 => k_is); (case l17 => k_is); (case c17 => k_is); (case k17 => k_is); (case a18 => k_is); (case l18 => k_is); (case c18 => k_is); (case k18 => k_is); (case a19 => k_is); (case l19 => k_is); (case c19 => k_is); (case k19 => k_is); (case a20 => k_is); (case l20 => k_is); (case c20 => k_is); (case k20 => k_is); (case a21 => k_is); (case l21 => k_is); (case c21 => k_is); (case k21 => k_is); (case a22 => k_is); (case l22 => k_is); (case c22 => k_is); (case k22 => k_is); (case a23 => k_is); (case l23 => k_is); (case c23 => k_is); (case k23 => k_is); (case a24 => k_is); (case l24 => k_is); (case c24 => k_is); (case k24 => k_is); (case a25 => k_is); (case l25 => k_is); (case c25 => k_is); (case k25 => k_is); (case a26 => k_is); (case l26 => k_is); (case c26 => k_is); (case k26 => k_is); (case z0 => k_is); (case z1 => k_is); (case z2 => k_is); (case z3 => k_is); (case z4 => k_is); (case z5 => k_is); (case z6 => k_is); (case z7 => k_is); (case z8 => k_is); (case z9 => k_is); (case z10 => k_is); (case z11 => k_is); (case q0 => k_is)

