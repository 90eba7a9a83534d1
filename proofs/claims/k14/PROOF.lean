import PyProof.Rows.All
import Wide.All
import OpenK.AllK
import Wide.FinOn
import HandS.ForMost
import HandS.Wide
import HandS.More
import HandS.StrMore
import HandS.FStr
import HandS.IsInst
import HandS.TupAny
import HandS.Style
import HandS.Exc
import HandS.TryOnly
import HandS.ExcOwn
import HandS.WordsExc
import HandS.Evl
import HandS.Codes
import HandS.SortKw
import KE.DatumOrd
import PySem.Challenge.RW_heldpasts_k14_texts_of_nodes
set_option Elab.async false
set_option linter.all false
set_option maxRecDepth 100000
set_option maxHeartbeats 4000000
/-! ### my rules: one name an operator, whatever the kinds -/
namespace My
open PySem PySem.Spec PyProof.Rows L2
section
variable {X : Cx}
theorem hu_64 {A : Around} {k : Nat} (hr : Room k A) : A.units + 64 < cLine := hr.units
/-! #### + -/
def rAddS : R2 := fun x y H Q => ∃ i j, x = .str i ∧ y = .str j ∧ i.length + j.length ≤ sizeLine ∧ Q (.str (i ++ j)) H
def rADD (K : PySem.W.Frag) : R2 := fun x y H Q => rI0 (fun i j => .int (i + j)) x y H Q ∨ rAddS x y H Q ∨ rCat x y H Q ∨ rCatA K x y H Q
theorem op_ADD : OpR X (binaryOp .Add) (rADD X.K) := op_add.or (OpR.or (r := rAddS) op_add_str (op_cat.or op_catA))
def rSUB : R2 := rI0 fun i j => .int (i - j)
theorem op_SUB : OpR X (binaryOp .Sub) rSUB := op_sub
/-! #### * -/
theorem cps_repl (l : Array Nat) (k : Nat) : (List.replicate k l).foldl (· ++ ·) #[] = ((List.replicate k l.toList).flatten).toArray := by
  have h : ∀ (n : Nat) (acc : Array Nat), (List.replicate n l).foldl (· ++ ·) acc = acc ++ ((List.replicate n l.toList).flatten).toArray := by
    intro n
    induction n with
    | zero => intro acc; simp
    | succ n ih =>
      intro acc
      rw [List.replicate_succ, List.foldl_cons, ih, List.replicate_succ, List.flatten_cons]
      apply Array.ext'
      simp
  rw [h]
  simp
/-- a text so many times -/
def repS (x : Str) (k : Int) : Str := ⟨((List.replicate k.toNat x.cps.toList).flatten).toArray⟩
def rMulS : R2 := fun x y H Q => ∃ z k, x = .str z ∧ y = .int k ∧ -(2 ^ 63) ≤ k ∧ k < 2 ^ 63 ∧ z.length * k.toNat ≤ sizeLine ∧ Q (.str (repS z k)) H
theorem op_mul_str : OpR X (binaryOp .Mult) rMulS := by
  intro pins s σ H x y v u Q I rx ry h
  obtain ⟨z, k, rfl, rfl, h1, h2, hz, q⟩ := h
  obtain ⟨t, rfl⟩ := rx
  obtain ⟨t', rfl⟩ := ry
  have hz' : z.length * k.toNat ≤ 2 ^ 24 := hz
  refine P.mul_str ?_ ?_ ?_ ?_
  · rw [decide_eq_false (by omega), decide_eq_false (by omega)]; rfl
  · intro h1 h3
    have hk : 0 < k := by omega
    have h4 : (z.length : Int) * k ≤ 2 ^ 24 := by
      have : ((z.length * k.toNat : Nat) : Int) ≤ 2 ^ 24 := by exact_mod_cast hz'
      rw [Int.natCast_mul, Int.toNat_of_nonneg (by omega)] at this
      exact this
    intro h5
    have h6 : (2 ^ 63 - 1) / k < (z.length : Int) := h5
    have h7 := (Int.ediv_lt_iff_lt_mul hk).mp h6
    omega
  · intro h1 h3
    exact decide_eq_false (Nat.not_lt.mpr hz)
  · by_cases h3 : k < 1
    · rw [if_pos h3]
      have e : repS z k = Str.empty := by
        unfold repS
        rw [show k.toNat = 0 by omega]
        rfl
      rw [e] at q
      exact ⟨by decide, ⟨.str Str.empty, H, I.tok _, ⟨_, rfl⟩, q⟩⟩
    · rw [if_neg h3]
      by_cases h4 : (k == 1 || z.length == 0) = true
      · rw [if_pos h4]
        have e : repS z k = z := by
          unfold repS
          rcases Bool.or_eq_true _ _ ▸ h4 with h5 | h5
          · rw [show k.toNat = 1 by have := of_decide_eq_true h5; omega]
            simp
          · have h6 : z.length = 0 := by simpa using h5
            have h7 : z.cps.toList = [] := by
              apply List.eq_nil_of_length_eq_zero
              rw [Array.length_toList]
              exact h6
            rw [h7]
            rcases z with ⟨c⟩
            have h8 : c = #[] := Array.ext' (by simpa using h7)
            subst h8
            simp
        rw [e] at q
        exact ⟨.str z, H, I, ⟨_, rfl⟩, q⟩
      · rw [if_neg h4]
        refine ⟨?_, ⟨.str (repS z k), H, I.tok _, ⟨s.toks, ?_⟩, q⟩⟩
        · show Str.length ⟨_⟩ ≤ sizeLine
          rw [cps_repl]
          show (List.toArray _).size ≤ sizeLine
          rw [List.size_toArray, List.length_flatten, List.map_replicate, List.sum_replicate_nat, Array.length_toList]
          show k.toNat * z.length ≤ sizeLine
          rw [Nat.mul_comm]
          exact hz
        · rw [cps_repl]
          rfl
def CMulA (i j : Int) : Prop := CMul i j ∨ CMulW i j
def rMulI : R2 := fun x y H Q => ∃ i j, x = .int i ∧ y = .int j ∧ CMulA i j ∧ Q (.int (i * j)) H
theorem op_mulA : OpR X (binaryOp .Mult) rMulI := opI fun _ _ _ _ _ _ _ hc q => mul_int q (hc.elim (fun h => h.ok) fun h => h.ok)
def rMUL (K : PySem.W.Frag) : R2 := fun x y H Q => rMulI x y H Q ∨ rMulS x y H Q ∨ rRep x y H Q
theorem op_MUL : OpR X (binaryOp .Mult) (rMUL X.K) := op_mulA.or (op_mul_str.or op_rep)
/-! #### //, percent, ** -/
def rMOD : R2 := rI (fun _ j => 0 < j) fun i j => .int (i % j)
theorem op_MOD : OpR X (binaryOp .Mod) rMOD := op_mod
def rFDIV : R2 := rI CDivW fun i j => .int (i / j)
theorem op_FDIV : OpR X (binaryOp .FloorDiv) rFDIV := op_fdivW
def rPOW : R2 := rI CPow fun i j => .int (i ^ j.toNat)
theorem op_POW : OpR X (binaryOp .Pow) rPOW := op_pow
def rNEG : V → Hp → VK → Prop := rU fun i => .int (-i)
theorem un_NEG : UnR X (unaryOp .USub) rNEG := un_neg
/-! #### comparisons -/
def rEQ (K : PySem.W.Frag) : R2 := fun x y H Q => rEq x y H Q ∨ rEqD K x y H Q
theorem op_EQ (hu : X.A.units + 64 < cLine) : OpR X (compareOp .Eq) (rEQ X.K) := op_eq.or (op_eqD hu)
def rNE (K : PySem.W.Frag) : R2 := fun x y H Q => rNe x y H Q ∨ rNeD K x y H Q
theorem op_NE (hu : X.A.units + 64 < cLine) : OpR X (compareOp .NotEq) (rNE X.K) := op_ne.or (op_neD hu)
def rCI (p : Int → Int → Bool) : R2 := rI0 fun i j => .bl (p i j)
def rCS (p : List Nat → List Nat → Bool) : R2 := fun x y H Q => ∃ i j, x = .str i ∧ y = .str j ∧ Q (.bl (p i.cps.toList j.cps.toList)) H
def rLT : R2 := fun x y H Q => rCI (fun i j => decide (i < j)) x y H Q ∨ rCS (fun i j => decide (i < j)) x y H Q
theorem op_LT : OpR X (compareOp .Lt) rLT := OpR.or (r := rCI _) (r' := rCS _) op_lt op_lt_str
def rLE : R2 := fun x y H Q => rCI (fun i j => decide (i ≤ j)) x y H Q ∨ rCS (fun i j => !decide (j < i)) x y H Q
theorem op_LE : OpR X (compareOp .LtE) rLE := OpR.or (r := rCI _) (r' := rCS _) op_le op_le_str
def rGT : R2 := fun x y H Q => rCI (fun i j => decide (j < i)) x y H Q ∨ rCS (fun i j => decide (j < i)) x y H Q
theorem op_GT : OpR X (compareOp .Gt) rGT := OpR.or (r := rCI _) (r' := rCS _) op_gt op_gt_str
def rGE : R2 := fun x y H Q => rCI (fun i j => decide (j ≤ i)) x y H Q ∨ rCS (fun i j => !decide (i < j)) x y H Q
theorem op_GE : OpR X (compareOp .GtE) rGE := OpR.or (r := rCI _) (r' := rCS _) op_ge op_ge_str
/-- is: None; types; a truth on the right -/
def rIsT (f : Bool → Bool) : R2 := fun x y H Q => ∃ b, y = .bl b ∧ Q (.bl (f (decide (x = .bl b)))) H
theorem op_is_true : OpR X (compareOp .Is) (rIsT id) := by
  intro pins s σ H x y v u Q I rx ry h
  obtain ⟨b, rfl, q⟩ := h
  cases (show u = Value.bool b from ry)
  by_cases e : x = .bl b
  · subst e
    cases (show v = Value.bool b from rx)
    exact wpAny_is_self rfl ⟨.bl true, H, I, rfl, by simpa using q⟩
  · have ne : v ≠ Value.bool b := by
      rintro rfl
      apply e
      cases x <;> first
        | (cases rx; done)
        | (cases rx; rfl)
        | (obtain ⟨t, z⟩ := rx; cases z)
    have hp : plainIs v (Value.bool b) = true := by
      cases x <;> first
        | (cases rx; rfl)
        | (obtain ⟨t, rfl⟩ := rx; rfl)
    exact wpAny_is_other hp ne ⟨.bl false, H, I, rfl, by simpa [e] using q⟩
theorem op_isnot_true : OpR X (compareOp .IsNot) (rIsT not) := by
  intro pins s σ H x y v u Q I rx ry h
  obtain ⟨b, rfl, q⟩ := h
  cases (show u = Value.bool b from ry)
  by_cases e : x = .bl b
  · subst e
    cases (show v = Value.bool b from rx)
    exact wpAny_isNot_self rfl ⟨.bl false, H, I, rfl, by simpa using q⟩
  · have ne : v ≠ Value.bool b := by
      rintro rfl
      apply e
      cases x <;> first
        | (cases rx; done)
        | (cases rx; rfl)
        | (obtain ⟨t, z⟩ := rx; cases z)
    have hp : plainIs v (Value.bool b) = true := by
      cases x <;> first
        | (cases rx; rfl)
        | (obtain ⟨t, rfl⟩ := rx; rfl)
    exact wpAny_isNot_other hp ne ⟨.bl true, H, I, rfl, by simpa [e] using q⟩
def rIsN1 (f : Bool → Bool) : R2 := fun x y H Q => y = .non ∧ Q (.bl (f (decide (x = .non)))) H
def rIsTy (f : Bool → Bool) : R2 := fun x y H Q => ∃ m n, x = .ty m ∧ y = .ty n ∧ Q (.bl (f (decide (m = n)))) H
def rIS (_ : PySem.W.Frag) : R2 := fun x y H Q => rIsN1 id x y H Q ∨ rIsTy id x y H Q ∨ rIsT id x y H Q
theorem op_IS : OpR X (compareOp .Is) (rIS X.K) := OpR.or (r := rIsN1 id) op_isN (OpR.or (r := rIsTy id) op_isTyB op_is_true)
def rISN (_ : PySem.W.Frag) : R2 := fun x y H Q => rIsN1 not x y H Q ∨ rIsTy not x y H Q ∨ rIsT not x y H Q
theorem op_ISN : OpR X (compareOp .IsNot) (rISN X.K) := OpR.or (r := rIsN1 not) op_notN (OpR.or (r := rIsTy not) op_notTyB op_isnot_true)
/-- in: a sign in a text; in a list or tuple -/
def rInSg (f : Bool → Bool) : R2 := fun x y H Q => ∃ (c : Nat) (z : Str), x = .str ⟨#[c]⟩ ∧ y = .str z ∧ Q (.bl (f (decide (c ∈ z.cps.toList)))) H
def rINU (K : PySem.W.Frag) : R2 := fun x y H Q => rInSg id x y H Q ∨ rIn K false x y H Q
theorem op_IN : OpR X (compareOp .In) (rINU X.K) := OpR.or (r := rInSg id) op_in_sign op_in_seq
def rNINU (K : PySem.W.Frag) : R2 := fun x y H Q => rInSg not x y H Q ∨ rIn K true x y H Q
theorem op_NIN : OpR X (compareOp .NotIn) (rNINU X.K) := OpR.or (r := rInSg not) op_notIn_sign op_notIn_seq
/-! #### subscripts, slices -/
def rIX (K : PySem.W.Frag) : R2 := rIx K
theorem ix_SEQ : IxR X (rIX X.K) := ix_seq
def rSL (K : PySem.W.Frag) : V → Option Int → Option Int → Hp → VK → Prop := fun x lo hi H Q => rSlS x lo hi H Q ∨ rSlL K x lo hi H Q ∨ rSlA K x lo hi H Q
theorem sl_SEQ : SlR X (rSL X.K) := SlR.or sl_str (SlR.or sl_list sl_tupA)
/-! #### tests -/
def tTru1 (K : PySem.W.Frag) (ta : TE) : TT := fun σ H Q => ta σ H fun x H' => ∃ k, TruV K x H' k ∧ Q k H'
theorem pt_tru {a : Expr} {ta : TE} (ha : PE X a ta) (he : ∀ whole, isTrue a X.env whole = (do let v ← whole; standAt a.pos; holding [v] (truthy v))) : PT X a (tTru1 X.K ta) := pt_truth ha he
/-! #### the module's constants -/
theorem pe_cI {x : Str} {i : Int} {pos : Pos} (hg : Gl X x) (h : ∃ t, X.mg x = some (.int i t)) (hd : (x == ("__debug__" : Str)) = false := by decide) : PE X (.Name x pos) (tC (.int i)) := by
  obtain ⟨t, h⟩ := h
  exact pe_glob hg h ⟨t, rfl⟩ hd
theorem pe_cS {x : Str} {i : Str} {pos : Pos} (hg : Gl X x) (h : ∃ t, X.mg x = some (.str i t)) (hd : (x == ("__debug__" : Str)) = false := by decide) : PE X (.Name x pos) (tC (.str i)) := by
  obtain ⟨t, h⟩ := h
  exact pe_glob hg h ⟨t, rfl⟩ hd
theorem pe_cR {x : Str} {a : Addr} {pos : Pos} (hg : Gl X x) (h : X.mg x = some (.ref a)) (hd : (x == ("__debug__" : Str)) = false := by decide) : PE X (.Name x pos) (tC (.ref a)) := pe_glob hg h rfl hd
/-! #### calls with keywords alone -/
section
variable {CX : CXT} {k : Nat} {f C : Addr} {fd : FuncData} {ps ks : List Str} {sp : Sp} {E : XK} {x m : Str} {p pos apos kpos : Pos} {e o : Expr} {es : List Expr} {kws : List Keyword} {te ta : TE} {t tk : TA} {nm : Option Str}
variable {g : List Value → List Value → List Value} {gV : List V → List V → List V}
def tCallK0 (sp : Sp) (gV : List V → List V → List V) (E : XK) (tk : TA) : TE := fun σ H Q => tk σ H fun zs H2 => sp (gV [] zs) H2 Q E
theorem pe_callK0 (F : FnOk X.prog X.w X.K X.mg X.base CX k f fd ps sp) (hr : Room k X.A) (hg : Gl X x) (hm : X.mg x = some (.ref f)) (hk : PySem.W.keepIn X.K (.ref f) = true) (hb : KBinds X.K fd ps ks g gV) (hx : Passes CX X E)
    (hkw : PK X kws tk) (hall : (backToKw pos (keywordEach kws X.env)).all (·.1.isSome) = true := by rfl) (hks : (backToKw pos (keywordEach kws X.env)).filterMap (·.1) = ks := by rfl)
    (hdb : (x == ("__debug__" : Str)) = false := by decide)
    (hpl : ((backTo pos (starEach [] X.env)).any (·.1) || (backToKw pos (keywordEach kws X.env)).any (·.1.isNone)) = false := by rfl) :
    PE X (.Call (.Name x p) [] kws pos) (tCallK0 sp gV E tk) := by
  refine ⟨fun pins s σ H Q I h => ?_⟩
  refine wpAny_Call_Name_kw (ld_glob I hg hm ?_ hdb)
  refine PySem.W.callWith_KW0 (h₀ := X.base) I.ok.mod.kin hk hall ?_ hpl
  refine thn (hkw.run pos pins s σ H _ I h) fun ws s2 ⟨zs, H2, I2, rz, q2⟩ => ⟨I2.kIn, ?_⟩
  rw [hks]
  exact run_fnk (us := []) (vs := []) F hr hb hx I2 .nil rz q2
end
/-! #### built-ins -/
def rINT : List V → Hp → VK → Prop := fun xs H Q => ((∃ i, xs = [.int i] ∧ Q (.int i) H) ∨ ∃ k, xs = [.bl k] ∧ Q (.int (if k then 1 else 0)) H) ∨ ∃ a n, xs = [.str a] ∧ PySem.intText? a = some n ∧ a.length ≤ 640 ∧ Q (.int n) H
theorem call_INT : CallR X (.type "int") rINT := call_int1.or call_int_str
def rSTR : List V → Hp → VK → Prop := fun xs H Q => ∃ i, xs = [.int i] ∧ i.natAbs.log2 < 1920 ∧ Q (.str (toString i)) H
theorem call_STR : CallR X (.type "str") rSTR := call_str_int
def rTUPLE (K : PySem.W.Frag) : List V → Hp → VK → Prop := fun xs H Q => ∃ p ys, xs = [.ref p] ∧ ((SqL K H p ys ∧ ∀ l, H l = none → Q (.ref l) (upd H l (.tup ys))) ∨ (SqT K H p ys ∧ Q (.ref p) H))
theorem call_TUPLE : CallR X (.type "tuple") (rTUPLE X.K) := call_tuple_of
def rLIST (K : PySem.W.Frag) : List V → Hp → VK → Prop := fun xs H Q => ∃ p ys, xs = [.ref p] ∧ (SqL K H p ys ∨ SqT K H p ys) ∧ ∀ l, H l = none → Q (.ref l) (upd H l (.lst ys))
theorem call_LIST : CallR X (.type "list") (rLIST X.K) := call_list_of
def rLenQ (K : PySem.W.Frag) : List V → Hp → VK → Prop := fun xs H Q => ∃ p ys, xs = [.ref p] ∧ (SqL K H p ys ∨ SqT K H p ys) ∧ Q (.int ys.length) H
def rLenS : List V → Hp → VK → Prop := fun xs H Q => ∃ z, xs = [.str z] ∧ z.length ≤ sizeLine ∧ Q (.int z.length) H
def rLEN (K : PySem.W.Frag) : List V → Hp → VK → Prop := fun xs H Q => rLenS xs H Q ∨ rLenQ K xs H Q
theorem call_LEN : CallR X (.builtin "len") (rLEN X.K) := CallR.or (r := rLenS) (r' := rLenQ X.K) call_len_str call_len_seq
def rABS : List V → Hp → VK → Prop := fun xs H Q => ∃ i, xs = [.int i] ∧ Q (.int (if i < 0 then -i else i)) H
theorem call_ABS : CallR X (.builtin "abs") rABS := call_abs
def rMAX2 : List V → Hp → VK → Prop := fun xs H Q => ∃ i j, xs = [.int i, .int j] ∧ Q (.int (if j > i then j else i)) H
theorem call_MAX2 (hc : X.calm = true) : CallR X (.builtin "max") rMAX2 := call_max2 hc
def rMIN2 : List V → Hp → VK → Prop := fun xs H Q => ∃ i j, xs = [.int i, .int j] ∧ Q (.int (if j < i then j else i)) H
theorem call_MIN2 (hc : X.calm = true) : CallR X (.builtin "min") rMIN2 := call_min2 hc
def rISI (K : PySem.W.Frag) : List V → Hp → VK → Prop := fun xs H Q => rIsi K xs H Q ∨ rIsiT K xs H Q
theorem call_ISI : CallR X (.builtin "isinstance") (rISI X.K) := call_isi.or call_isiT
/-! #### methods -/
def rM_isascii : V → List V → Hp → VK → Prop := fun x xs H Q => ∃ a, x = .str a ∧ xs = [] ∧ True ∧ Q (.bl (Txt.isascii a)) H
def rM_isprintable : V → List V → Hp → VK → Prop := fun x xs H Q => ∃ a, x = .str a ∧ xs = [] ∧ True ∧ Q (.bl (Txt.isprintable a)) H
def rM_isdigit : V → List V → Hp → VK → Prop := fun x xs H Q => ∃ a, x = .str a ∧ xs = [] ∧ True ∧ Q (.bl (Txt.isdigit a)) H
def rM_find : V → List V → Hp → VK → Prop := fun x xs H Q => ∃ a b, x = .str a ∧ xs = [.str b] ∧ Q (.int (Txt.find a b)) H
def rM_zfill : V → List V → Hp → VK → Prop := fun x xs H Q => ∃ (a : Str) (i : Int), x = .str a ∧ xs = [.int i] ∧ PadOk i = true ∧ Q (.str (Txt.zfill a i)) H
def rM_rjust : V → List V → Hp → VK → Prop := fun x xs H Q => ∃ (a : Str) (i : Int), x = .str a ∧ xs = [.int i] ∧ PadOk i = true ∧ Q (.str (Txt.rjust a i)) H
def rJoin (K : PySem.W.Frag) : V → List V → Hp → VK → Prop := fun x xs H Q => ∃ a p, ∃ ys : List Str, x = .str a ∧ xs = [.ref p] ∧ (SqL K H p (ys.map V.str) ∨ SqT K H p (ys.map V.str)) ∧
      (ys.map (·.length)).sum + ys.length * a.length ≤ 16777216 ∧ Q (.str (Txt.join a ys)) H
def rPOP : V → List V → Hp → VK → Prop := rPopAt
theorem mt_POP : MtR X "list.pop" rPOP := mt_popAt
theorem mt_FIND : MtR X "str.find" rM_find := mt_find
theorem mt_ZFILL : MtR X "str.zfill" rM_zfill := mt_zfill
theorem mt_RJUST : MtR X "str.rjust" rM_rjust := mt_rjust
/-- {x:0wd}: a number not below 0, with noughts ahead up to w signs -/
def zpad (w : Nat) (i : Int) : Str := ⟨(List.replicate (w - (Nat.toDigits 10 i.toNat).length) 48 ++ (Nat.toDigits 10 i.toNat).map Char.toNat).toArray⟩
end
end My

set_option Elab.async false
set_option linter.all false
set_option maxRecDepth 100000
set_option maxHeartbeats 400000
namespace My
open PySem PySem.Spec PyProof.Rows L2
section
variable {X : Cx}
theorem zpad_of {w : Nat} {a : Int} {D : List Nat} (h0 : 0 ≤ a) (hD : D = (Nat.toDigits 10 a.natAbs).map Char.toNat) (p1 : Nat) (p2 : Nat) (h1 : p1 = w - D.length) (h2 : p2 = 0) :
    (⟨(List.replicate 0 48 ++ [] ++ [] ++ List.replicate p2 48 ++ (List.replicate p1 48 ++ D) ++ [] ++ List.replicate 0 48).toArray⟩ : Str) = zpad w a := by
  subst hD h1 h2
  unfold zpad
  have e : a.natAbs = a.toNat := by omega
  rw [e, List.length_map]
  simp
theorem zpad_len {w : Nat} {a : Int} (h0 : 0 ≤ a) (hl : a.natAbs.log2 < 1920) (hw : w ≤ 100) : (zpad w a).length ≤ sizeLine := by
  have h1 : (Nat.toDigits 10 a.toNat).length ≤ 1921 := by
    have h2 : a.toNat < 10 ^ 1921 := by
      have h3 : a.toNat < 2 ^ 1920 := by
        have h4 : a.toNat = a.natAbs := by omega
        rw [h4]
        by_cases hz : a.natAbs = 0
        · rw [hz]; exact Nat.two_pow_pos _
        · exact (Nat.log2_lt hz).mp hl
      exact Nat.lt_of_lt_of_le h3 (Nat.le_trans (Nat.pow_le_pow_left (show 2 ≤ 10 by decide) 1920) (Nat.pow_le_pow_right (by decide) (by decide)))
    have h5 := (Nat.length_repr_le_iff (n := a.toNat) (k := 1921) (by decide)).mpr h2
    rwa [← String.length_toList, Nat.toList_repr] at h5
  show (List.toArray _).size ≤ sizeLine
  rw [List.size_toArray, List.length_append, List.length_replicate, List.length_map]
  exact Nat.le_trans (show _ ≤ 2100 by omega) (by decide)
theorem ret_text2 {M : Model} {A : Around} {E : Value → Shared → Prop} {s : Shared} {X T : PySem.Str} {Q : PySem.Fin → Shared → Prop} (e : X = T) (hL : T.length ≤ sizeLine) (h : ∀ t k, Q (.done (.ret (.str T t))) { s with toks := k }) : wpAny M A (retStr X) Q E s := by
  subst e
  exact PySem.W.KXf.ret_text rfl hL h
theorem fmt0_meets_3 {a : Int} {t : Tok} (h0 : 0 ≤ a) (hl : a.natAbs.log2 < 1920) :
  ∀ u, Meets (Builtin.«int.__format__» ⟨[.int a t, .str (Str.ofString "03d") u], []⟩) (fun _ R s => ∀ t' k, R (.ok (.ret (.str (zpad 3 a) t'))) { s with toks := k }) := by
  have hn : decide (a < 0) = false := decide_eq_false (by omega)
  intro u
  apply PySem.W.KPc.meets_of
  intro prog w A s Q E h
  unfold Builtin.«int.__format__»
  refine wpAny_bind (wpAny_of_eq (a := (_, _)) rfl ?_)
  refine wpAny_bind (wpAny_of_eq (a := _) rfl ?_)
  kxf_if
  refine wpAny_bind (wpAny_typeNameOf (T := "str") (typeIs_str _ _ _) (by decide) fun _ => ?_)
  refine wpAny_bind (wpAny_of_eq (a := some _) rfl ?_)
  kxf_if
  kxf_if
  refine wpAny_bind (wpAny_typeNameOfCut_int ?_)
  (repeat kxf_if)
  refine wpAny_bind (wpAny_of_eq (PySem.overDigitLimit_small hl) ?_)
  (repeat kxf_if)
  refine ret_text2 (T := zpad 3 a) ?_ (zpad_len h0 hl (by decide)) (fun t' k => h t' k)
  rw [hn]
  generalize hD : (List.map _ (Nat.toDigits _ a.natAbs)) = D
  have hD' : D = (Nat.toDigits 10 a.natAbs).map Char.toNat := hD.symm
  clear hD
  cases D with
  | nil => exact absurd (congrArg List.length hD') (by rw [List.length_map]; have := Nat.length_toDigits_pos (b := 10) (n := a.natAbs); simp; omega)
  | cons d ds =>
    refine zpad_of h0 hD' _ _ ?_ ?_
    · rfl
    · show ((3 : Int) - 0 - (((List.replicate (3 - (d :: ds).length) 48 ++ (d :: ds)).length : Nat) : Int)).toNat = 0
      rw [List.length_append, List.length_replicate]
      omega
theorem fmt0_meets_4 {a : Int} {t : Tok} (h0 : 0 ≤ a) (hl : a.natAbs.log2 < 1920) :
  ∀ u, Meets (Builtin.«int.__format__» ⟨[.int a t, .str (Str.ofString "04d") u], []⟩) (fun _ R s => ∀ t' k, R (.ok (.ret (.str (zpad 4 a) t'))) { s with toks := k }) := by
  have hn : decide (a < 0) = false := decide_eq_false (by omega)
  intro u
  apply PySem.W.KPc.meets_of
  intro prog w A s Q E h
  unfold Builtin.«int.__format__»
  refine wpAny_bind (wpAny_of_eq (a := (_, _)) rfl ?_)
  refine wpAny_bind (wpAny_of_eq (a := _) rfl ?_)
  kxf_if
  refine wpAny_bind (wpAny_typeNameOf (T := "str") (typeIs_str _ _ _) (by decide) fun _ => ?_)
  refine wpAny_bind (wpAny_of_eq (a := some _) rfl ?_)
  kxf_if
  kxf_if
  refine wpAny_bind (wpAny_typeNameOfCut_int ?_)
  (repeat kxf_if)
  refine wpAny_bind (wpAny_of_eq (PySem.overDigitLimit_small hl) ?_)
  (repeat kxf_if)
  refine ret_text2 (T := zpad 4 a) ?_ (zpad_len h0 hl (by decide)) (fun t' k => h t' k)
  rw [hn]
  generalize hD : (List.map _ (Nat.toDigits _ a.natAbs)) = D
  have hD' : D = (Nat.toDigits 10 a.natAbs).map Char.toNat := hD.symm
  clear hD
  cases D with
  | nil => exact absurd (congrArg List.length hD') (by rw [List.length_map]; have := Nat.length_toDigits_pos (b := 10) (n := a.natAbs); simp; omega)
  | cons d ds =>
    refine zpad_of h0 hD' _ _ ?_ ?_
    · rfl
    · show ((4 : Int) - 0 - (((List.replicate (4 - (d :: ds).length) 48 ++ (d :: ds)).length : Nat) : Int)).toNat = 0
      rw [List.length_append, List.length_replicate]
      omega
theorem fmt0_meets_6 {a : Int} {t : Tok} (h0 : 0 ≤ a) (hl : a.natAbs.log2 < 1920) :
  ∀ u, Meets (Builtin.«int.__format__» ⟨[.int a t, .str (Str.ofString "06d") u], []⟩) (fun _ R s => ∀ t' k, R (.ok (.ret (.str (zpad 6 a) t'))) { s with toks := k }) := by
  have hn : decide (a < 0) = false := decide_eq_false (by omega)
  intro u
  apply PySem.W.KPc.meets_of
  intro prog w A s Q E h
  unfold Builtin.«int.__format__»
  refine wpAny_bind (wpAny_of_eq (a := (_, _)) rfl ?_)
  refine wpAny_bind (wpAny_of_eq (a := _) rfl ?_)
  kxf_if
  refine wpAny_bind (wpAny_typeNameOf (T := "str") (typeIs_str _ _ _) (by decide) fun _ => ?_)
  refine wpAny_bind (wpAny_of_eq (a := some _) rfl ?_)
  kxf_if
  kxf_if
  refine wpAny_bind (wpAny_typeNameOfCut_int ?_)
  (repeat kxf_if)
  refine wpAny_bind (wpAny_of_eq (PySem.overDigitLimit_small hl) ?_)
  (repeat kxf_if)
  refine ret_text2 (T := zpad 6 a) ?_ (zpad_len h0 hl (by decide)) (fun t' k => h t' k)
  rw [hn]
  generalize hD : (List.map _ (Nat.toDigits _ a.natAbs)) = D
  have hD' : D = (Nat.toDigits 10 a.natAbs).map Char.toNat := hD.symm
  clear hD
  cases D with
  | nil => exact absurd (congrArg List.length hD') (by rw [List.length_map]; have := Nat.length_toDigits_pos (b := 10) (n := a.natAbs); simp; omega)
  | cons d ds =>
    refine zpad_of h0 hD' _ _ ?_ ?_
    · rfl
    · show ((6 : Int) - 0 - (((List.replicate (6 - (d :: ds).length) 48 ++ (d :: ds)).length : Nat) : Int)).toNat = 0
      rw [List.length_append, List.length_replicate]
      omega
theorem fmt0_meets_8 {a : Int} {t : Tok} (h0 : 0 ≤ a) (hl : a.natAbs.log2 < 1920) :
  ∀ u, Meets (Builtin.«int.__format__» ⟨[.int a t, .str (Str.ofString "08d") u], []⟩) (fun _ R s => ∀ t' k, R (.ok (.ret (.str (zpad 8 a) t'))) { s with toks := k }) := by
  have hn : decide (a < 0) = false := decide_eq_false (by omega)
  intro u
  apply PySem.W.KPc.meets_of
  intro prog w A s Q E h
  unfold Builtin.«int.__format__»
  refine wpAny_bind (wpAny_of_eq (a := (_, _)) rfl ?_)
  refine wpAny_bind (wpAny_of_eq (a := _) rfl ?_)
  kxf_if
  refine wpAny_bind (wpAny_typeNameOf (T := "str") (typeIs_str _ _ _) (by decide) fun _ => ?_)
  refine wpAny_bind (wpAny_of_eq (a := some _) rfl ?_)
  kxf_if
  kxf_if
  refine wpAny_bind (wpAny_typeNameOfCut_int ?_)
  (repeat kxf_if)
  refine wpAny_bind (wpAny_of_eq (PySem.overDigitLimit_small hl) ?_)
  (repeat kxf_if)
  refine ret_text2 (T := zpad 8 a) ?_ (zpad_len h0 hl (by decide)) (fun t' k => h t' k)
  rw [hn]
  generalize hD : (List.map _ (Nat.toDigits _ a.natAbs)) = D
  have hD' : D = (Nat.toDigits 10 a.natAbs).map Char.toNat := hD.symm
  clear hD
  cases D with
  | nil => exact absurd (congrArg List.length hD') (by rw [List.length_map]; have := Nat.length_toDigits_pos (b := 10) (n := a.natAbs); simp; omega)
  | cons d ds =>
    refine zpad_of h0 hD' _ _ ?_ ?_
    · rfl
    · show ((8 : Int) - 0 - (((List.replicate (8 - (d :: ds).length) 48 ++ (d :: ds)).length : Nat) : Int)).toNat = 0
      rw [List.length_append, List.length_replicate]
      omega
/-- 0wd: the specs that are served -/
def FmtW (spec : Str) (w : Nat) : Prop := (spec = Str.ofString "06d" ∧ w = 6) ∨ (spec = Str.ofString "04d" ∧ w = 4) ∨ (spec = Str.ofString "03d" ∧ w = 3) ∨ (spec = Str.ofString "08d" ∧ w = 8)
def tFmt0 (w : Nat) (te : TE) : TE := fun σ H Q => te σ H fun x H1 => ∃ i : Int, x = .int i ∧ 0 ≤ i ∧ i.natAbs.log2 < 1920 ∧ Q (.str (zpad w i)) H1
theorem pe_fmt0 (w : Nat) {spec : Str} {e : Expr} {te : TE} {j : Nat} {p1 p2 pos : Pos} (he : PE X e te) (hs : FmtW spec w := by first | exact .inl ⟨rfl, rfl⟩ | exact .inr (.inl ⟨rfl, rfl⟩) | exact .inr (.inr (.inl ⟨rfl, rfl⟩)) | exact .inr (.inr (.inr ⟨rfl, rfl⟩))) :
    PE X (.FormattedValue e (-1) (some (.JoinedStr [.Constant (.str spec) j p1] p2)) pos) (tFmt0 w te) := by
  refine ⟨fun pins s σ H Q I h => ?_⟩
  refine wpAny_FormattedValue_spec (thn (he.run pins s σ H _ I h) fun v s1 hv => ?_)
  obtain ⟨x, H1, I1, r1, i, rfl, h0, hl, q⟩ := hv
  obtain ⟨t, rfl⟩ := r1
  refine wpAny_JoinedStr_one (Calls.Constant_str ⟨spec, _, rfl, ?_⟩)
  rcases hs with ⟨rfl, rfl⟩ | ⟨rfl, rfl⟩ | ⟨rfl, rfl⟩ | ⟨rfl, rfl⟩
  · exact PySem.W.KXf.field_int rfl (by decide) (by decide) (fmt0_meets_6 h0 hl) fun t' k => ⟨.str (zpad 6 i), H1, I1.tok _, ⟨t', rfl⟩, q⟩
  · exact PySem.W.KXf.field_int rfl (by decide) (by decide) (fmt0_meets_4 h0 hl) fun t' k => ⟨.str (zpad 4 i), H1, I1.tok _, ⟨t', rfl⟩, q⟩
  · exact PySem.W.KXf.field_int rfl (by decide) (by decide) (fmt0_meets_3 h0 hl) fun t' k => ⟨.str (zpad 3 i), H1, I1.tok _, ⟨t', rfl⟩, q⟩
  · exact PySem.W.KXf.field_int rfl (by decide) (by decide) (fmt0_meets_8 h0 hl) fun t' k => ⟨.str (zpad 8 i), H1, I1.tok _, ⟨t', rfl⟩, q⟩
end
end My

set_option Elab.async false
set_option linter.all false
set_option maxRecDepth 100000
set_option maxHeartbeats 400000
/-! ### readings, step by step -/
namespace My
open PySem PySem.Spec PyProof.Rows L2
abbrev St := L2.St
section
variable {K : PySem.W.Frag} {σ : St} {H : Hp} {Q : VK} {ta tb tc te : TE} {t u c : TT} {tr tr' : TA} {r r' : R2} {v x y z : V}
theorem x_var {i : Nat} (h : σ[i]? = some (some v)) (q : Q v H) : tVar i σ H Q := ⟨v, h, q⟩
theorem x_c (q : Q v H) : tC v σ H Q := q
theorem x_op (h : ta σ H fun x H1 => tb σ H1 fun y H2 => r x y H2 Q) : tOp r ta tb σ H Q := h
theorem x_un {r : V → Hp → VK → Prop} (h : ta σ H fun x H1 => r x H1 Q) : tUn r ta σ H Q := h
theorem x_tst {Q : Bool → Hp → Prop} (h : te σ H fun x H' => ∃ k, x = .bl k ∧ Q k H') : tTest te σ H Q := h
theorem x_bl {Q : Bool → Hp → Prop} {b : Bool} (h : Q b H) : ∃ k, V.bl b = .bl k ∧ Q k H := ⟨b, rfl, h⟩
theorem x_tru {Q : Bool → Hp → Prop} (h : ta σ H fun x H' => ∃ k, TruV K x H' k ∧ Q k H') : tTru1 K ta σ H Q := h
theorem x_truB {P : Bool → Prop} {b : Bool} (h : P b) : ∃ k, TruV K (.bl b) H k ∧ P k := ⟨b, rfl, h⟩
theorem x_truL {P : Bool → Prop} {p : Addr} {xs : List V} (hs : SqL K H p xs) (h : P (!xs.isEmpty)) : ∃ k, TruV K (.ref p) H k ∧ P k := ⟨_, .inl ⟨xs, hs, rfl⟩, h⟩
theorem x_truT {P : Bool → Prop} {p : Addr} {xs : List V} (hs : SqT K H p xs) (h : P (!xs.isEmpty)) : ∃ k, TruV K (.ref p) H k ∧ P k := ⟨_, .inr (.inl ⟨xs, hs, rfl⟩), h⟩
theorem x_truS {P : Bool → Prop} {s : Str} (hs : s.length ≤ sizeLine) (h : P ((s.length : Int) != 0)) : ∃ k, TruV K (.str s) H k ∧ P k := ⟨_, ⟨hs, rfl⟩, h⟩
theorem x_not {Q : Bool → Hp → Prop} (h : t σ H fun c H1 => Q (!c) H1) : tNot t σ H Q := h
theorem x_and {Q : Bool → Hp → Prop} (h : t σ H fun c H1 => if c = true then u σ H1 Q else Q false H1) : tAnd t u σ H Q := h
theorem x_or {Q : Bool → Hp → Prop} (h : t σ H fun c H1 => if c = true then Q true H1 else u σ H1 Q) : tOr t u σ H Q := h
theorem x_andV (h : ta σ H fun x H1 => ∃ c, x = .bl c ∧ if c = true then tb σ H1 Q else Q (.bl false) H1) : tAndV ta tb σ H Q := h
theorem x_orV (h : ta σ H fun x H1 => ∃ c, x = .bl c ∧ if c = true then Q (.bl true) H1 else tb σ H1 Q) : tOrV ta tb σ H Q := h
theorem x_notV (h : ta σ H fun x H1 => ∃ c, x = .bl c ∧ Q (.bl (!c)) H1) : tNotV ta σ H Q := h
theorem x_bl2 {b : Bool} {P : Bool → Prop} (h : P b) : ∃ k, V.bl b = .bl k ∧ P k := ⟨b, rfl, h⟩
theorem x_yes {Q : Bool → Hp → Prop} (h : Q true H) : tYes σ H Q := h
theorem x_if (h : c σ H fun b H1 => if b = true then ta σ H1 Q else tb σ H1 Q) : tIf c ta tb σ H Q := h
theorem x_nil {Q : List V → Hp → Prop} (q : Q [] H) : tNil σ H Q := q
theorem x_cons {Q : List V → Hp → Prop} (h : ta σ H fun x H1 => tr σ H1 fun xs H2 => Q (x :: xs) H2) : tCons ta tr σ H Q := h
theorem x_tup (h : tr σ H fun xs H1 => xs.length ≤ sizeLine ∧ ∀ p, H1 p = none → Q (.ref p) (upd H1 p (.tup xs))) : tTup tr σ H Q := h
theorem x_lst (h : tr σ H fun xs H1 => xs.length ≤ sizeLine ∧ ∀ p, H1 p = none → Q (.ref p) (upd H1 p (.lst xs))) : tLst tr σ H Q := h
theorem x_call {sp : Sp} {E : XK} (h : tr σ H fun vs H1 => sp vs H1 Q E) : tCall sp [] E tr σ H Q := by
  have e : (fun (vs : List V) (H1 : Hp) => sp (vs ++ []) H1 Q E) = fun vs H1 => sp vs H1 Q E := by funext vs H1; rw [List.append_nil]
  show tr σ H fun vs H1 => sp (vs ++ []) H1 Q E
  rw [e]
  exact h
theorem x_callK {sp : Sp} {gV : List V → List V → List V} {E : XK} (h : tr σ H fun vs H1 => tr' σ H1 fun zs H2 => sp (gV vs zs) H2 Q E) : tCallK sp gV E tr tr' σ H Q := h
theorem x_callK0 {sp : Sp} {gV : List V → List V → List V} {E : XK} (h : tr σ H fun zs H2 => sp (gV [] zs) H2 Q E) : tCallK0 sp gV E tr σ H Q := h
theorem x_cb {r : List V → Hp → VK → Prop} (h : tr σ H fun vs H1 => r vs H1 Q) : tCB r tr σ H Q := h
theorem x_bm {T : String} {r : V → List V → Hp → VK → Prop} (h : ta σ H fun x H1 => tyV K T x H1 ∧ tr σ H1 fun xs H2 => r x xs H2 Q) : tBM K T r ta tr σ H Q := h
theorem x_bm0 {T : String} {r : V → List V → Hp → VK → Prop} (h : ta σ H fun x H1 => tyV K T x H1 ∧ r x [] H1 Q) : tBM0 K T r ta σ H Q := h
theorem x_tyS {s : Str} {P : Prop} (h : P) : tyV K "str" (.str s) H ∧ P := ⟨rfl, h⟩
theorem x_tyL {p : Addr} {xs : List V} {P : Prop} (hs : SqL K H p xs) (h : P) : tyV K "list" (.ref p) H ∧ P := ⟨.inl ⟨rfl, xs, hs⟩, h⟩
theorem x_sl {r : V → Option Int → Option Int → Hp → VK → Prop} {tl th : TO} (h : te σ H fun x H1 => tl σ H1 fun l H2 => th σ H2 fun u H3 => r x l u H3 Q) : tSl r te tl th σ H Q := h
theorem x_nopart {Q : Option Int → Hp → Prop} (h : Q none H) : tNoPart σ H Q := h
theorem x_part {Q : Option Int → Hp → Prop} (h : te σ H fun x H1 => ∃ i, x = .int i ∧ Q (some i) H1) : tPart te σ H Q := h
theorem x_int {i : Int} {P : Int → Prop} (h : P i) : ∃ k, V.int i = .int k ∧ P k := ⟨i, rfl, h⟩
theorem x_str {s : Str} {P : Str → Prop} (h : P s) : ∃ k, V.str s = .str k ∧ P k := ⟨s, rfl, h⟩
theorem x_fmt (h : te σ H fun x H1 => (∃ y : Str, x = .str y ∧ y.length ≤ sizeLine ∧ Q (.str y) H1) ∨ ∃ i : Int, x = .int i ∧ i.natAbs.log2 < 1920 ∧ Q (.str (toString i)) H1) : tFmt te σ H Q := h
theorem x_fmtS {s : Str} {P : Int → Prop} (hs : s.length ≤ sizeLine) (h : Q (.str s) H) : (∃ y : Str, V.str s = .str y ∧ y.length ≤ sizeLine ∧ Q (.str y) H) ∨ ∃ i : Int, V.str s = .int i ∧ i.natAbs.log2 < 1920 ∧ Q (.str (toString i)) H := .inl ⟨s, rfl, hs, h⟩
theorem x_fmt0 {w : Nat} (h : te σ H fun x H1 => ∃ i : Int, x = .int i ∧ 0 ≤ i ∧ i.natAbs.log2 < 1920 ∧ Q (.str (zpad w i)) H1) : tFmt0 w te σ H Q := h
theorem x_fmtI {w : Nat} {i : Int} (h0 : 0 ≤ i) (hl : i.natAbs.log2 < 1920) (h : Q (.str (zpad w i)) H) : ∃ k : Int, V.int i = .int k ∧ 0 ≤ k ∧ k.natAbs.log2 < 1920 ∧ Q (.str (zpad w k)) H := ⟨i, rfl, h0, hl, h⟩
theorem x_js0 {acc : Str} {Q : Str → Hp → Prop} (h : Q acc H) : tJs [] acc σ H Q := h
theorem x_js {acc : Str} {Q : Str → Hp → Prop} {ts : List TE} (h : te σ H fun x H1 => ∃ y : Str, x = .str y ∧ (acc ++ y).length ≤ sizeLine ∧ tJs ts (acc ++ y) σ H1 Q) : tJs (te :: ts) acc σ H Q := h
theorem x_jsS {s acc : Str} {Q : Str → Hp → Prop} {ts : List TE} (hs : (acc ++ s).length ≤ sizeLine) (h : tJs ts (acc ++ s) σ H Q) : ∃ y : Str, V.str s = .str y ∧ (acc ++ y).length ≤ sizeLine ∧ tJs ts (acc ++ y) σ H Q := ⟨s, rfl, hs, h⟩
theorem x_chain (h : ta σ H fun x H1 => tb σ H1 fun y H2 => r x y H2 fun z H3 => ∃ k, z = .bl k ∧ (if k = true then tc σ H3 fun w' H4 => r' y w' H4 Q else Q (.bl false) H3)) : tChain r r' ta tb tc σ H Q := h
/-! leaves -/
theorem a_ii {i j : Int} (h : Q (.int (i + j)) H) : rADD K (.int i) (.int j) H Q := .inl ⟨i, j, rfl, rfl, h⟩
theorem a_ss {i j : Str} (hl : i.length + j.length ≤ sizeLine) (h : Q (.str (i ++ j)) H) : rADD K (.str i) (.str j) H Q := .inr (.inl ⟨i, j, rfl, rfl, hl, h⟩)
theorem a_ll {p q : Addr} {xs ys : List V} (hp : H p = some (.lst xs)) (hq : H q = some (.lst ys)) (hl : xs.length + ys.length ≤ sizeLine) (h : ∀ l, H l = none → Q (.ref l) (upd H l (.lst (xs ++ ys)))) : rADD K (.ref p) (.ref q) H Q :=
  .inr (.inr (.inl ⟨p, q, xs, ys, rfl, rfl, hp, hq, hl, h⟩))
theorem a_tt {p q : Addr} {xs ys : List V} (hp : SqT K H p xs) (hq : SqT K H q ys) (hl : xs.length + ys.length ≤ sizeLine) (h : (xs = [] → Q (.ref q) H) ∧ (xs ≠ [] → ys = [] → Q (.ref p) H) ∧ (xs ≠ [] → ys ≠ [] → ∀ l, H l = none → Q (.ref l) (upd H l (.tup (xs ++ ys))))) : rADD K (.ref p) (.ref q) H Q :=
  .inr (.inr (.inr ⟨p, q, xs, ys, rfl, rfl, hp, hq, hl, h⟩))
theorem s_ii {i j : Int} (h : Q (.int (i - j)) H) : rSUB (.int i) (.int j) H Q := ⟨i, j, rfl, rfl, h⟩
theorem m_ii {i j : Int} (hc : CMulA i j) (h : Q (.int (i * j)) H) : rMUL K (.int i) (.int j) H Q := .inl ⟨i, j, rfl, rfl, hc, h⟩
theorem m_si {s : Str} {k : Int} (h1 : -(2 ^ 63) ≤ k) (h2 : k < 2 ^ 63) (hl : s.length * k.toNat ≤ sizeLine) (h : Q (.str (repS s k)) H) : rMUL K (.str s) (.int k) H Q := .inr (.inl ⟨s, k, rfl, rfl, h1, h2, hl, h⟩)
theorem m_li {p : Addr} {xs : List V} {k : Int} (hp : H p = some (.lst xs)) (h1 : -(2 ^ 63) ≤ k) (h2 : k < 2 ^ 63) (hl : xs.length * k.toNat ≤ sizeLine) (h : ∀ l, H l = none → Q (.ref l) (upd H l (.lst (List.replicate k.toNat xs).flatten))) : rMUL K (.ref p) (.int k) H Q :=
  .inr (.inr ⟨p, k, xs, rfl, rfl, hp, h1, h2, hl, h⟩)
theorem md_ii {i j : Int} (hc : 0 < j) (h : Q (.int (i % j)) H) : rMOD (.int i) (.int j) H Q := ⟨i, j, rfl, rfl, hc, h⟩
theorem fd_ii {i j : Int} (hc : CDivW i j) (h : Q (.int (i / j)) H) : rFDIV (.int i) (.int j) H Q := ⟨i, j, rfl, rfl, hc, h⟩
theorem pw_ii {i j : Int} (hc : CPow i j) (h : Q (.int (i ^ j.toNat)) H) : rPOW (.int i) (.int j) H Q := ⟨i, j, rfl, rfl, hc, h⟩
theorem n_i {i : Int} (h : Q (.int (-i)) H) : rNEG (.int i) H Q := ⟨i, rfl, h⟩
theorem e_ii {i j : Int} (h : Q (.bl (decide (i = j))) H) : rEQ K (.int i) (.int j) H Q := .inl ⟨rfl, by rw [show decide (V.int i = V.int j) = decide (i = j) by simp]; exact h⟩
theorem e_ss {i j : Str} (h : Q (.bl (decide (i = j))) H) : rEQ K (.str i) (.str j) H Q := .inl ⟨rfl, by rw [show decide (V.str i = V.str j) = decide (i = j) by simp]; exact h⟩
theorem e_bb {i j : Bool} (h : Q (.bl (decide (i = j))) H) : rEQ K (.bl i) (.bl j) H Q := .inl ⟨rfl, by rw [show decide (V.bl i = V.bl j) = decide (i = j) by simp]; exact h⟩
theorem e_d {d e : PyData} (hd : Dp K H x d) (he : Dp K H y e) (h1 : SeqAt.shaped d = true) (h2 : SeqAt.shaped e = true) (h : Q (.bl (PyData.eqv d e)) H) : rEQ K x y H Q := .inr ⟨d, e, hd, he, h1, h2, h⟩
theorem ne_ii {i j : Int} (h : Q (.bl (!decide (i = j))) H) : rNE K (.int i) (.int j) H Q := .inl ⟨rfl, by rw [show decide (V.int i = V.int j) = decide (i = j) by simp]; exact h⟩
theorem ne_ss {i j : Str} (h : Q (.bl (!decide (i = j))) H) : rNE K (.str i) (.str j) H Q := .inl ⟨rfl, by rw [show decide (V.str i = V.str j) = decide (i = j) by simp]; exact h⟩
theorem ne_bb {i j : Bool} (h : Q (.bl (!decide (i = j))) H) : rNE K (.bl i) (.bl j) H Q := .inl ⟨rfl, by rw [show decide (V.bl i = V.bl j) = decide (i = j) by simp]; exact h⟩
theorem ne_d {d e : PyData} (hd : Dp K H x d) (he : Dp K H y e) (h1 : SeqAt.shaped d = true) (h2 : SeqAt.shaped e = true) (h : Q (.bl (!PyData.eqv d e)) H) : rNE K x y H Q := .inr ⟨d, e, hd, he, h1, h2, h⟩
theorem lt_ii {i j : Int} (h : Q (.bl (decide (i < j))) H) : rLT (.int i) (.int j) H Q := .inl ⟨i, j, rfl, rfl, h⟩
theorem lt_ss {i j : Str} (h : Q (.bl (decide (i.cps.toList < j.cps.toList))) H) : rLT (.str i) (.str j) H Q := .inr ⟨i, j, rfl, rfl, h⟩
theorem le_ii {i j : Int} (h : Q (.bl (decide (i ≤ j))) H) : rLE (.int i) (.int j) H Q := .inl ⟨i, j, rfl, rfl, h⟩
theorem gt_ii {i j : Int} (h : Q (.bl (decide (j < i))) H) : rGT (.int i) (.int j) H Q := .inl ⟨i, j, rfl, rfl, h⟩
theorem gt_ss {i j : Str} (h : Q (.bl (decide (j.cps.toList < i.cps.toList))) H) : rGT (.str i) (.str j) H Q := .inr ⟨i, j, rfl, rfl, h⟩
theorem ge_ii {i j : Int} (h : Q (.bl (decide (j ≤ i))) H) : rGE (.int i) (.int j) H Q := .inl ⟨i, j, rfl, rfl, h⟩
theorem is_N (h : Q (.bl (decide (x = .non))) H) : rIS K x .non H Q := .inl ⟨rfl, h⟩
theorem is_T {m n : String} (h : Q (.bl (decide (m = n))) H) : rIS K (.ty m) (.ty n) H Q := .inr (.inl ⟨m, n, rfl, rfl, h⟩)
theorem is_B {b : Bool} (h : Q (.bl (decide (x = .bl b))) H) : rIS K x (.bl b) H Q := .inr (.inr ⟨b, rfl, h⟩)
theorem isn_N (h : Q (.bl (!decide (x = .non))) H) : rISN K x .non H Q := .inl ⟨rfl, h⟩
theorem isn_T {m n : String} (h : Q (.bl (!decide (m = n))) H) : rISN K (.ty m) (.ty n) H Q := .inr (.inl ⟨m, n, rfl, rfl, h⟩)
theorem isn_B {b : Bool} (h : Q (.bl (!decide (x = .bl b))) H) : rISN K x (.bl b) H Q := .inr (.inr ⟨b, rfl, h⟩)
theorem in_s {c : Nat} {z : Str} (h : Q (.bl (decide (c ∈ z.cps.toList))) H) : rINU K (.str ⟨#[c]⟩) (.str z) H Q := .inl ⟨c, z, rfl, rfl, h⟩
theorem nin_s {c : Nat} {z : Str} (h : Q (.bl (!decide (c ∈ z.cps.toList))) H) : rNINU K (.str ⟨#[c]⟩) (.str z) H Q := .inl ⟨c, z, rfl, rfl, h⟩
theorem ix_L {p : Addr} {xs : List V} {i : Int} (hs : SqL K H p xs) (ha : atI xs i = some v) (h : Q v H) : rIX K (.ref p) (.int i) H Q := .inl ⟨p, xs, i, v, rfl, rfl, hs, ha, h⟩
theorem ix_T {p : Addr} {xs : List V} {i : Int} (hs : SqT K H p xs) (ha : atI xs i = some v) (h : Q v H) : rIX K (.ref p) (.int i) H Q := .inr (.inl ⟨p, xs, i, v, rfl, rfl, hs, ha, h⟩)
theorem ix_S {z : Str} {i : Int} {c : Nat} (hl : z.length ≤ sizeLine) (ha : atI z.cps.toList i = some c) (h : Q (.str ⟨#[c]⟩) H) : rIX K (.str z) (.int i) H Q := .inr (.inr ⟨z, i, c, rfl, rfl, hl, ha, h⟩)
theorem sl_S {z : Str} {lo hi : Option Int} (hl : z.length ≤ sizeLine) (h : Q (.str (cutS z lo hi)) H) : rSL K (.str z) lo hi H Q := .inl ⟨z, rfl, hl, h⟩
theorem sl_L {p : Addr} {xs : List V} {lo hi : Option Int} (hs : SqL K H p xs) (h : ∀ l, H l = none → Q (.ref l) (upd H l (.lst (cutV xs lo hi)))) : rSL K (.ref p) lo hi H Q := .inr (.inl ⟨p, xs, rfl, hs, h⟩)
theorem i_i {i : Int} (h : Q (.int i) H) : rINT [.int i] H Q := .inl (.inl ⟨i, rfl, h⟩)
theorem i_b {b : Bool} (h : Q (.int (if b then 1 else 0)) H) : rINT [.bl b] H Q := .inl (.inr ⟨b, rfl, h⟩)
theorem i_s {a : Str} {n : Int} (ha : PySem.intText? a = some n) (hl : a.length ≤ 640) (h : Q (.int n) H) : rINT [.str a] H Q := .inr ⟨a, n, rfl, ha, hl, h⟩
theorem st_i {i : Int} (hl : i.natAbs.log2 < 1920) (h : Q (.str (toString i)) H) : rSTR [.int i] H Q := ⟨i, rfl, hl, h⟩
theorem ln_s {z : Str} (hl : z.length ≤ sizeLine) (h : Q (.int z.length) H) : rLEN K [.str z] H Q := .inl ⟨z, rfl, hl, h⟩
theorem ln_l {p : Addr} {xs : List V} (hs : SqL K H p xs) (h : Q (.int xs.length) H) : rLEN K [.ref p] H Q := .inr ⟨p, xs, rfl, .inl hs, h⟩
theorem ln_t {p : Addr} {xs : List V} (hs : SqT K H p xs) (h : Q (.int xs.length) H) : rLEN K [.ref p] H Q := .inr ⟨p, xs, rfl, .inr hs, h⟩
theorem ab_i {i : Int} (h : Q (.int (if i < 0 then -i else i)) H) : rABS [.int i] H Q := ⟨i, rfl, h⟩
theorem mx_ii {i j : Int} (h : Q (.int (if j > i then j else i)) H) : rMAX2 [.int i, .int j] H Q := ⟨i, j, rfl, h⟩
theorem mn_ii {i j : Int} (h : Q (.int (if j < i then j else i)) H) : rMIN2 [.int i, .int j] H Q := ⟨i, j, rfl, h⟩
theorem ty_N (h : Q (.ty "NoneType") H) : rTyp K [.non] H Q := ⟨_, _, rfl, .non, h⟩
theorem ty_B {b : Bool} (h : Q (.ty "bool") H) : rTyp K [.bl b] H Q := ⟨_, _, rfl, .bl b, h⟩
theorem ty_I {i : Int} (h : Q (.ty "int") H) : rTyp K [.int i] H Q := ⟨_, _, rfl, .int i, h⟩
theorem ty_S {s : Str} (h : Q (.ty "str") H) : rTyp K [.str s] H Q := ⟨_, _, rfl, .str s, h⟩
theorem ty_L {p : Addr} {xs : List V} (hs : SqL K H p xs) (h : Q (.ty "list") H) : rTyp K [.ref p] H Q := ⟨_, _, rfl, .lst hs, h⟩
theorem ty_T {p : Addr} {xs : List V} (hs : SqT K H p xs) (h : Q (.ty "tuple") H) : rTyp K [.ref p] H Q := ⟨_, _, rfl, .tup hs, h⟩
theorem ma_s {s : Str} (h : Q (.bl (Txt.isascii s)) H) : rM_isascii (.str s) [] H Q := ⟨s, rfl, rfl, True.intro, h⟩
theorem mp_s {s : Str} (h : Q (.bl (Txt.isprintable s)) H) : rM_isprintable (.str s) [] H Q := ⟨s, rfl, rfl, True.intro, h⟩
theorem mdg_s {s : Str} (h : Q (.bl (Txt.isdigit s)) H) : rM_isdigit (.str s) [] H Q := ⟨s, rfl, rfl, True.intro, h⟩
theorem mf_s {s u : Str} (h : Q (.int (Txt.find s u)) H) : rM_find (.str s) [.str u] H Q := ⟨s, u, rfl, rfl, h⟩
theorem al_b {p : Addr} {bs : List Bool} (hs : SqL K H p (bs.map V.bl)) (h : Q (.bl (bs.all id)) H) : rAll K [.ref p] H Q := ⟨p, bs, rfl, hs, h⟩
/-! statements -/
variable {n b k : St → Hp → Prop} {rt : VK} {p q s w : TS} {g : TG} {D : Ends}
theorem s_seq (h : p ⟨q ⟨n, rt, b, k⟩, rt, b, k⟩ σ H) : tSeq p q ⟨n, rt, b, k⟩ σ H := h
theorem s_asg (h : te σ H fun x H1 => g x σ H1 n) : tAsg te g ⟨n, rt, b, k⟩ σ H := h
theorem s_gn {i : Nat} {N : St → Hp → Prop} (h : N (σ.set i (some v)) H) : gName i v σ H N := h
theorem s_if (h : c σ H fun d H1 => if d = true then p D σ H1 else q D σ H1) : tIfS c p q D σ H := h
theorem s_ret (h : te σ H rt) : tRet te ⟨n, rt, b, k⟩ σ H := h
theorem s_retN (h : rt .non H) : tRetN ⟨n, rt, b, k⟩ σ H := h
theorem s_next (h : n σ H) : tNext ⟨n, rt, b, k⟩ σ H := h
theorem s_brk (h : b σ H) : tBreak ⟨n, rt, b, k⟩ σ H := h
theorem s_cont (h : k σ H) : tCont ⟨n, rt, b, k⟩ σ H := h
theorem s_drop (h : te σ H fun _ H1 => n σ H1) : tDrop te ⟨n, rt, b, k⟩ σ H := h
theorem s_par {i j : Nat} (h : tr σ H fun vs H1 => ∃ v w, vs = [v, w] ∧ n ((σ.set i (some v)).set j (some w)) H1) : tPar i j tr ⟨n, rt, b, k⟩ σ H := h
theorem s_par3 {i j l : Nat} (h : tr σ H fun vs H1 => ∃ u v w, vs = [u, v, w] ∧ n (((σ.set i (some u)).set j (some v)).set l (some w)) H1) : tPar3 i j l tr ⟨n, rt, b, k⟩ σ H := h
theorem x_gsub {to ti : TE} {t : TSet} {N : St → Hp → Prop} (h : to σ H fun o H1 => ti σ H1 fun i H2 => t o i v H2 fun H3 => N σ H3) : gSub to ti t v σ H N := h
theorem st_L {p : Addr} {xs : List V} {i : Int} {N : Hp → Prop} (hp : H p = some (.lst xs)) (h0 : 0 ≤ i) (h1 : i < (xs.length : Int)) (h : N (upd H p (.lst (xs.set i.toNat v)))) : rSetL (.ref p) (.int i) v H N := by
  refine ⟨p, xs, i, i.toNat, rfl, rfl, hp, ?_, h⟩
  unfold ixN
  rw [if_pos h0]
  first | rw [if_pos h1] | simp [h1]
theorem pop_L {p : Addr} {x : V} {xs : List V} (hp : H p = some (.lst (x :: xs))) (h : Q x (upd H p (.lst xs))) : rPOP (.ref p) [.int 0] H Q := by
  refine ⟨p, x :: xs, 0, 0, x, rfl, rfl, hp, by decide, by decide, ?_, rfl, h⟩
  simp [seqIndex?]
theorem w_while {c : TT} {tb : TS} (W : Nat → St → Hp → Prop) (m0 : Nat) (h0 : W m0 σ H) (hs : ∀ m σ H, W m σ H → c σ H fun d H1 => if d = true then ∃ N : St → Hp → Prop, (∀ σ' H', N σ' H' → ∃ m', m' < m ∧ W m' σ' H') ∧ tb ⟨N, rt, n, N⟩ σ H1 else n σ H1) : tWhile c tb ⟨n, rt, b, k⟩ σ H :=
  ⟨W, ⟨m0, h0⟩, hs⟩
/-! loops -/
def LoopW (J : It) (g : TG) (tb : TS) (n : St → Hp → Prop) (rt : VK) (σ : St) (H : Hp) : Prop := ∃ W : Nat → Nat → St → Hp → Prop, (∃ m, W 0 m σ H) ∧ ∀ i m σ H, W i m σ H →
  (J.stop i H ∧ n σ H) ∨ (J.go i H ∧ ∃ N : St → Hp → Prop, (∀ σ' H', N σ' H' → ∃ m', m' < m ∧ W (i + 1) m' σ' H') ∧ ∀ x H', J.yld i H x H' → g x σ H' fun σ2 H2 => tb ⟨N, rt, n, N⟩ σ2 H2)
def ForR1 (g : TG) (tb : TS) (n : St → Hp → Prop) (rt : VK) (σ : St) (vs : List V) (H : Hp) : Prop := ∃ j : Int, vs = [.int j] ∧ -(2 ^ 62) ≤ j ∧ j < 2 ^ 62 ∧ LoopW (Itr 0 j.toNat) g tb n rt σ H
def ForR2 (g : TG) (tb : TS) (n : St → Hp → Prop) (rt : VK) (σ : St) (vs : List V) (H : Hp) : Prop := ∃ i j : Int, vs = [.int i, .int j] ∧ (-(2 ^ 62) ≤ i ∧ i < 2 ^ 62 ∧ -(2 ^ 62) ≤ j ∧ j < 2 ^ 62) ∧ LoopW (Itr i (j - i).toNat) g tb n rt σ H
def ForL (K : PySem.W.Frag) (g : TG) (tb : TS) (n : St → Hp → Prop) (rt : VK) (σ : St) (x : V) (H : Hp) : Prop := ∃ a, x = .ref a ∧ (∃ xs, SqL K H a xs) ∧ LoopW (Itl K a) g tb n rt σ H
def ForT (K : PySem.W.Frag) (g : TG) (tb : TS) (n : St → Hp → Prop) (rt : VK) (σ : St) (x : V) (H : Hp) : Prop := ∃ a, x = .ref a ∧ (∃ xs, SqT K H a xs) ∧ LoopW (Itt K a) g tb n rt σ H
def ForS (g : TG) (tb : TS) (n : St → Hp → Prop) (rt : VK) (σ : St) (x : V) (H : Hp) : Prop := ∃ z, x = .str z ∧ LoopW (Its z) g tb n rt σ H
theorem f_r1 (h : tr σ H fun vs H1 => ForR1 g p n rt σ vs H1) : tFor (iRng1 tr) g p ⟨n, rt, b, k⟩ σ H := h
theorem f_r2 (h : tr σ H fun vs H1 => ForR2 g p n rt σ vs H1) : tFor (iRng2 tr) g p ⟨n, rt, b, k⟩ σ H := h
theorem f_l (h : te σ H fun x H1 => ForL K g p n rt σ x H1) : tFor (iList K te) g p ⟨n, rt, b, k⟩ σ H := h
theorem f_t (h : te σ H fun x H1 => ForT K g p n rt σ x H1) : tFor (iTup K te) g p ⟨n, rt, b, k⟩ σ H := h
theorem f_s (h : te σ H fun x H1 => ForS g p n rt σ x H1) : tFor (iStr te) g p ⟨n, rt, b, k⟩ σ H := h
theorem loopR {lo : Int} {m : Nat} (Pv : Nat → St → Hp → Prop) (h0 : Pv 0 σ H) (hs : ∀ i σ H, i < m → Pv i σ H → g (.int (lo + i)) σ H fun σ2 H2 => p ⟨Pv (i + 1), rt, n, Pv (i + 1)⟩ σ2 H2) (hd : ∀ σ H, Pv m σ H → n σ H) : LoopW (Itr lo m) g p n rt σ H := for_range (D := ⟨n, rt, n, n⟩) Pv h0 hs hd
theorem loopL {a : Addr} {xs : List V} (Pv : Nat → St → Hp → Prop) (h0 : Pv 0 σ H) (hl : ∀ i σ H, i ≤ xs.length → Pv i σ H → SqL K H a xs) (hs : ∀ i x σ H, xs[i]? = some x → Pv i σ H → g x σ H fun σ2 H2 => p ⟨Pv (i + 1), rt, n, Pv (i + 1)⟩ σ2 H2) (hd : ∀ σ H, Pv xs.length σ H → n σ H) : LoopW (Itl K a) g p n rt σ H := for_list (D := ⟨n, rt, n, n⟩) Pv h0 hl hs hd
theorem loopT {a : Addr} {xs : List V} (Pv : Nat → St → Hp → Prop) (h0 : Pv 0 σ H) (hl : ∀ i σ H, i ≤ xs.length → Pv i σ H → SqT K H a xs) (hs : ∀ i x σ H, xs[i]? = some x → Pv i σ H → g x σ H fun σ2 H2 => p ⟨Pv (i + 1), rt, n, Pv (i + 1)⟩ σ2 H2) (hd : ∀ σ H, Pv xs.length σ H → n σ H) : LoopW (Itt K a) g p n rt σ H := for_tup (D := ⟨n, rt, n, n⟩) Pv h0 hl hs hd
theorem for1_mk {j : Int} (hj : -(2 ^ 62) ≤ j) (hj2 : j < 2 ^ 62) (Pv : Nat → St → Hp → Prop) (h0 : Pv 0 σ H) (hs : ∀ (i : Nat) σ H, i < j.toNat → Pv i σ H → g (.int (i : Int)) σ H fun σ2 H2 => p ⟨Pv (i + 1), rt, n, Pv (i + 1)⟩ σ2 H2) (hd : ∀ σ H, Pv j.toNat σ H → n σ H) : ForR1 g p n rt σ [.int j] H :=
  ⟨j, rfl, hj, hj2, loopR Pv h0 (fun i σ H hi hp => by rw [Int.zero_add]; exact hs i σ H hi hp) hd⟩
theorem for2_mk {lo j : Int} (hj : -(2 ^ 62) ≤ lo ∧ lo < 2 ^ 62 ∧ -(2 ^ 62) ≤ j ∧ j < 2 ^ 62) (Pv : Nat → St → Hp → Prop) (h0 : Pv 0 σ H) (hs : ∀ (i : Nat) σ H, i < (j - lo).toNat → Pv i σ H → g (.int (lo + (i : Int))) σ H fun σ2 H2 => p ⟨Pv (i + 1), rt, n, Pv (i + 1)⟩ σ2 H2) (hd : ∀ σ H, Pv (j - lo).toNat σ H → n σ H) : ForR2 g p n rt σ [.int lo, .int j] H :=
  ⟨lo, j, rfl, hj, loopR Pv h0 hs hd⟩
theorem forL_mk {a : Addr} {xs : List V} (hx : SqL K H a xs) (Pv : Nat → St → Hp → Prop) (h0 : Pv 0 σ H) (hl : ∀ i σ H, i ≤ xs.length → Pv i σ H → SqL K H a xs) (hs : ∀ i x σ H, xs[i]? = some x → Pv i σ H → g x σ H fun σ2 H2 => p ⟨Pv (i + 1), rt, n, Pv (i + 1)⟩ σ2 H2) (hd : ∀ σ H, Pv xs.length σ H → n σ H) : ForL K g p n rt σ (.ref a) H := ⟨a, rfl, ⟨xs, hx⟩, loopL Pv h0 hl hs hd⟩
theorem forT_mk {a : Addr} {xs : List V} (hx : SqT K H a xs) (Pv : Nat → St → Hp → Prop) (h0 : Pv 0 σ H) (hl : ∀ i σ H, i ≤ xs.length → Pv i σ H → SqT K H a xs) (hs : ∀ i x σ H, xs[i]? = some x → Pv i σ H → g x σ H fun σ2 H2 => p ⟨Pv (i + 1), rt, n, Pv (i + 1)⟩ σ2 H2) (hd : ∀ σ H, Pv xs.length σ H → n σ H) : ForT K g p n rt σ (.ref a) H := ⟨a, rfl, ⟨xs, hx⟩, loopT Pv h0 hl hs hd⟩
/-! comprehensions -/
def LcW (J : It) (g : TG) (tt : TT) (te : TE) (vs : List Nat) (σ : St) (Q : VK) (H1 : Hp) : Prop := ∀ D, H1 D = none → ∃ W : Nat → Nat → Hp → Prop, (∃ m, W 0 m (upd H1 D (.lst []))) ∧ ∀ i m H, W i m H →
  (J.stop i H ∧ Q (.ref D) H) ∨ (J.go i H ∧ ∃ Nx : Hp → Prop, (∀ H', Nx H' → ∃ m', m' < m ∧ W (i + 1) m' H') ∧ ∀ x H', J.yld i H x H' → g x (wipe σ vs) H' fun σ2 H2 => wipe σ2 vs = wipe σ vs ∧ tt σ2 H2 fun b H3 =>
    if b = true then te σ2 H3 fun y H4 => ∃ acc, H4 D = some (.lst acc) ∧ acc.length < sizeLine ∧ Nx (upd H4 D (.lst (acc ++ [y]))) else Nx H3)
def LcR1 (g : TG) (tt : TT) (te : TE) (ws : List Nat) (σ : St) (Q : VK) (vs : List V) (H : Hp) : Prop := ∃ j : Int, vs = [.int j] ∧ -(2 ^ 62) ≤ j ∧ j < 2 ^ 62 ∧ LcW (Itr 0 j.toNat) g tt te ws σ Q H
def LcR2 (g : TG) (tt : TT) (te : TE) (ws : List Nat) (σ : St) (Q : VK) (vs : List V) (H : Hp) : Prop := ∃ i j : Int, vs = [.int i, .int j] ∧ (-(2 ^ 62) ≤ i ∧ i < 2 ^ 62 ∧ -(2 ^ 62) ≤ j ∧ j < 2 ^ 62) ∧ LcW (Itr i (j - i).toNat) g tt te ws σ Q H
def LcL (K : PySem.W.Frag) (g : TG) (tt : TT) (te : TE) (ws : List Nat) (σ : St) (Q : VK) (x : V) (H : Hp) : Prop := ∃ a, x = .ref a ∧ (∃ xs, SqL K H a xs) ∧ LcW (Itl K a) g tt te ws σ Q H
def LcT (K : PySem.W.Frag) (g : TG) (tt : TT) (te : TE) (ws : List Nat) (σ : St) (Q : VK) (x : V) (H : Hp) : Prop := ∃ a, x = .ref a ∧ (∃ xs, SqT K H a xs) ∧ LcW (Itt K a) g tt te ws σ Q H
def LcS (g : TG) (tt : TT) (te : TE) (ws : List Nat) (σ : St) (Q : VK) (x : V) (H : Hp) : Prop := ∃ z, x = .str z ∧ LcW (Its z) g tt te ws σ Q H
variable {ws : List Nat}
theorem c_r1 (h : tr σ H fun vs H1 => LcR1 g t te ws σ Q vs H1) : tLc (iRng1 tr) g t te ws σ H Q := h
theorem c_r2 (h : tr σ H fun vs H1 => LcR2 g t te ws σ Q vs H1) : tLc (iRng2 tr) g t te ws σ H Q := h
theorem c_l (h : ta σ H fun x H1 => LcL K g t te ws σ Q x H1) : tLc (iList K ta) g t te ws σ H Q := h
theorem c_t (h : ta σ H fun x H1 => LcT K g t te ws σ Q x H1) : tLc (iTup K ta) g t te ws σ H Q := h
theorem c_s (h : ta σ H fun x H1 => LcS g t te ws σ Q x H1) : tLc (iStr ta) g t te ws σ H Q := h
theorem lcR1_mk {j : Int} (hj : -(2 ^ 62) ≤ j) (hj2 : j < 2 ^ 62) (Pv : Addr → Nat → Hp → Prop) (h0 : ∀ D, H D = none → Pv D 0 (upd H D (.lst [])))
    (hs : ∀ D (i : Nat) H', H D = none → i < j.toNat → Pv D i H' → g (.int (i : Int)) (wipe σ ws) H' fun σ2 H2 => wipe σ2 ws = wipe σ ws ∧ t σ2 H2 fun b H3 => if b = true then te σ2 H3 fun y H4 => ∃ acc, H4 D = some (.lst acc) ∧ acc.length < sizeLine ∧ Pv D (i + 1) (upd H4 D (.lst (acc ++ [y]))) else Pv D (i + 1) H3)
    (hd : ∀ D H', H D = none → Pv D j.toNat H' → Q (.ref D) H') : LcR1 g t te ws σ Q [.int j] H :=
  ⟨j, rfl, hj, hj2, fun D hD => lc_range (lo := 0) (n := j.toNat) (Pv D) (h0 D hD) (fun i H hi hp => by rw [Int.zero_add]; exact hs D i H hD hi hp) (fun H' hp => hd D H' hD hp)⟩
theorem lcR2_mk {lo j : Int} (hj : -(2 ^ 62) ≤ lo ∧ lo < 2 ^ 62 ∧ -(2 ^ 62) ≤ j ∧ j < 2 ^ 62) (Pv : Addr → Nat → Hp → Prop) (h0 : ∀ D, H D = none → Pv D 0 (upd H D (.lst [])))
    (hs : ∀ D (i : Nat) H', H D = none → i < (j - lo).toNat → Pv D i H' → g (.int (lo + (i : Int))) (wipe σ ws) H' fun σ2 H2 => wipe σ2 ws = wipe σ ws ∧ t σ2 H2 fun b H3 => if b = true then te σ2 H3 fun y H4 => ∃ acc, H4 D = some (.lst acc) ∧ acc.length < sizeLine ∧ Pv D (i + 1) (upd H4 D (.lst (acc ++ [y]))) else Pv D (i + 1) H3)
    (hd : ∀ D H', H D = none → Pv D (j - lo).toNat H' → Q (.ref D) H') : LcR2 g t te ws σ Q [.int lo, .int j] H :=
  ⟨lo, j, rfl, hj, fun D hD => lc_range (lo := lo) (n := (j - lo).toNat) (Pv D) (h0 D hD) (fun i H hi hp => hs D i H hD hi hp) (fun H' hp => hd D H' hD hp)⟩
theorem lcL_mk {a : Addr} {xs : List V} (hx : SqL K H a xs) (Pv : Addr → Nat → Hp → Prop) (h0 : ∀ D, H D = none → Pv D 0 (upd H D (.lst []))) (hl : ∀ D i H', H D = none → i ≤ xs.length → Pv D i H' → SqL K H' a xs)
    (hs : ∀ D i x H', H D = none → xs[i]? = some x → Pv D i H' → g x (wipe σ ws) H' fun σ2 H2 => wipe σ2 ws = wipe σ ws ∧ t σ2 H2 fun b H3 => if b = true then te σ2 H3 fun y H4 => ∃ acc, H4 D = some (.lst acc) ∧ acc.length < sizeLine ∧ Pv D (i + 1) (upd H4 D (.lst (acc ++ [y]))) else Pv D (i + 1) H3)
    (hd : ∀ D H', H D = none → Pv D xs.length H' → Q (.ref D) H') : LcL K g t te ws σ Q (.ref a) H :=
  ⟨a, rfl, ⟨xs, hx⟩, fun D hD => lc_list (xs := xs) (Pv D) (h0 D hD) (fun i H hi hp => hl D i H hD hi hp) (fun i x H hi hp => hs D i x H hD hi hp) (fun H' hp => hd D H' hD hp)⟩
theorem lcT_mk {a : Addr} {xs : List V} (hx : SqT K H a xs) (Pv : Addr → Nat → Hp → Prop) (h0 : ∀ D, H D = none → Pv D 0 (upd H D (.lst []))) (hl : ∀ D i H', H D = none → i ≤ xs.length → Pv D i H' → SqT K H' a xs)
    (hs : ∀ D i x H', H D = none → xs[i]? = some x → Pv D i H' → g x (wipe σ ws) H' fun σ2 H2 => wipe σ2 ws = wipe σ ws ∧ t σ2 H2 fun b H3 => if b = true then te σ2 H3 fun y H4 => ∃ acc, H4 D = some (.lst acc) ∧ acc.length < sizeLine ∧ Pv D (i + 1) (upd H4 D (.lst (acc ++ [y]))) else Pv D (i + 1) H3)
    (hd : ∀ D H', H D = none → Pv D xs.length H' → Q (.ref D) H') : LcT K g t te ws σ Q (.ref a) H :=
  ⟨a, rfl, ⟨xs, hx⟩, fun D hD => lc_tup (xs := xs) (Pv D) (h0 D hD) (fun i H hi hp => hl D i H hD hi hp) (fun i x H hi hp => hs D i x H hD hi hp) (fun H' hp => hd D H' hD hp)⟩
theorem s_cut (M : St → Hp → Prop) (h : p ⟨M, rt, b, k⟩ σ H) (hq : ∀ σ' H', M σ' H' → q ⟨n, rt, b, k⟩ σ' H') : Evl.tCut p q ⟨n, rt, b, k⟩ σ H := ⟨M, h, hq⟩
theorem s_p2 {P : V → V → Prop} (h : P x y) : ∃ v w, [x, y] = [v, w] ∧ P v w := ⟨x, y, rfl, h⟩
theorem s_p3 {P : V → V → V → Prop} (h : P x y z) : ∃ u v w, [x, y, z] = [u, v, w] ∧ P u v w := ⟨x, y, z, rfl, h⟩
theorem iteTd {p : Prop} [Decidable p] {A B : Prop} (h : p) (q : A) : if decide p = true then A else B := by
  rw [decide_eq_true h]
  exact iteT q
theorem iteFd {p : Prop} [Decidable p] {A B : Prop} (h : ¬ p) (q : B) : if decide p = true then A else B := by
  rw [decide_eq_false h]
  exact iteF q
theorem iteNt {A B : Prop} (q : B) : if (!true) = true then A else B := iteF q
theorem iteNf {A B : Prop} (q : A) : if (!false) = true then A else B := iteT q
theorem iteNd {p : Prop} [Decidable p] {A B : Prop} (h : p) (q : B) : if (!decide p) = true then A else B := by
  rw [decide_eq_true h]
  exact iteF q
theorem iteNdF {p : Prop} [Decidable p] {A B : Prop} (h : ¬ p) (q : A) : if (!decide p) = true then A else B := by
  rw [decide_eq_false h]
  exact iteT q
theorem ite2' {c : Bool} {A B : Prop} (h1 : c = true → A) (h2 : c = false → B) : if c = true then A else B := by
  cases c with
  | true => exact h1 rfl
  | false => exact h2 rfl
end
end My

set_option Elab.async false
set_option linter.all false
set_option maxRecDepth 100000
set_option maxHeartbeats 400000
/-! ### texts as lists of codes; heaps -/
namespace My
open PySem PySem.Spec PyProof.Rows L2
abbrev S (l : List Nat) : Str := SX.S l
theorem S_cps (l : List Nat) : (S l).cps.toList = l := rfl
theorem S_len (l : List Nat) : (S l).length = l.length := SX.S_len l
theorem S_eta (z : Str) : z = S z.cps.toList := by
  rcases z with ⟨⟨l⟩⟩
  rfl
theorem S_app (a b : List Nat) : S a ++ S b = S (a ++ b) := by
  show (⟨a.toArray ++ b.toArray⟩ : Str) = ⟨(a ++ b).toArray⟩
  simp
theorem S_inj {a b : List Nat} (h : S a = S b) : a = b := congrArg (fun z : Str => z.cps.toList) h
theorem S_eq (a b : List Nat) : decide (S a = S b) = decide (a = b) := by
  by_cases h : a = b
  · subst h; simp
  · have h2 : ¬ S a = S b := fun e => h (S_inj e)
    rw [decide_eq_false h, decide_eq_false h2]
theorem S_one (c : Nat) : (⟨#[c]⟩ : Str) = S [c] := rfl
/-! slices -/
theorem cut_from (l : List Nat) (a : Nat) : cutS (S l) (some (a : Int)) none = S (l.drop a) := by
  unfold cutS
  rw [S_len, HT.sIx_nat, HT.sIx_none, S_cps]
  apply congrArg S
  rcases Nat.le_total a l.length with h | h
  · rw [Nat.min_eq_left h]
    exact List.take_of_length_le (by rw [List.length_drop]; exact Nat.le_refl _)
  · rw [Nat.min_eq_right h, List.drop_eq_nil_of_le h]
    simp
theorem cut_to (l : List Nat) (b : Nat) : cutS (S l) none (some (b : Int)) = S (l.take b) := by
  unfold cutS
  rw [S_len, HT.sIx_nat, HT.sIx_none, S_cps]
  apply congrArg S
  rw [List.drop_zero, Nat.sub_zero]
  rcases Nat.le_total b l.length with h | h
  · rw [Nat.min_eq_left h]
  · rw [Nat.min_eq_right h, List.take_of_length_le (Nat.le_refl _), List.take_of_length_le h]
theorem cut_mid (l : List Nat) (a b : Nat) : cutS (S l) (some (a : Int)) (some (b : Int)) = S ((l.take b).drop a) := by
  unfold cutS
  rw [S_len, HT.sIx_nat, HT.sIx_nat, S_cps]
  apply congrArg S
  rw [List.drop_take]
  rcases Nat.le_total a l.length with h | h
  · rw [Nat.min_eq_left h]
    rcases Nat.le_total b l.length with h2 | h2
    · rw [Nat.min_eq_left h2]
    · rw [Nat.min_eq_right h2, List.take_of_length_le (by rw [List.length_drop]; exact Nat.le_refl _), List.take_of_length_le (by rw [List.length_drop]; omega)]
  · rw [Nat.min_eq_right h, List.drop_eq_nil_of_le h]
    simp
theorem cut_fromI (l : List Nat) {a : Int} (h : 0 ≤ a) : cutS (S l) (some a) none = S (l.drop a.toNat) := by
  have e := cut_from l a.toNat
  rwa [Int.toNat_of_nonneg h] at e
theorem cut_toI (l : List Nat) {a : Int} (h : 0 ≤ a) : cutS (S l) none (some a) = S (l.take a.toNat) := by
  have e := cut_to l a.toNat
  rwa [Int.toNat_of_nonneg h] at e
theorem cut_midI (l : List Nat) {a b : Int} (h : 0 ≤ a) (h2 : 0 ≤ b) : cutS (S l) (some a) (some b) = S ((l.take b.toNat).drop a.toNat) := by
  have e := cut_mid l a.toNat b.toNat
  rwa [Int.toNat_of_nonneg h, Int.toNat_of_nonneg h2] at e
theorem repS_S (l : List Nat) (k : Int) : repS (S l) k = S (List.replicate k.toNat l).flatten := rfl
theorem join_S (ys : List (List Nat)) : Txt.join (S []) (ys.map S) = S ys.flatten := by
  rw [SX.join_S]
  apply congrArg S
  induction ys with
  | nil => rfl
  | cons y ys ih =>
    cases ys with
    | nil => simp [TL.joinL]
    | cons z zs =>
      have e : TL.joinL [] (y :: z :: zs) = y ++ ([] ++ TL.joinL [] (z :: zs)) := by first | rfl | simp [TL.joinL]
      rw [e, ih]
      rfl
/-! an item at a place -/
theorem at_nat {α : Type} {xs : List α} {i : Int} {v : α} (h0 : 0 ≤ i) (h : xs[i.toNat]? = some v) : atI xs i = some v := by
  have e := atI_nat h
  rwa [Int.toNat_of_nonneg h0] at e
theorem at_in {α : Type} {xs : List α} {i : Int} (h0 : 0 ≤ i) (h : i < (xs.length : Int)) : atI xs i = some (xs[i.toNat]'(by omega)) := at_nat h0 (List.getElem?_eq_getElem (by omega))
/-! leaves over S -/
section
variable {K : PySem.W.Frag} {H : Hp} {Q : VK} {l m : List Nat} {a b : Int}
theorem big_line {n : Nat} (h : n ≤ 1000000) : n ≤ sizeLine := Nat.le_trans h (by decide)
theorem sl_to (ha : 0 ≤ a) (hl : l.length ≤ 1000000) (q : Q (.str (S (l.take a.toNat))) H) : rSL K (.str (S l)) none (some a) H Q := sl_S (by rw [S_len]; exact big_line hl) (by rw [cut_toI l ha]; exact q)
theorem sl_from (ha : 0 ≤ a) (hl : l.length ≤ 1000000) (q : Q (.str (S (l.drop a.toNat))) H) : rSL K (.str (S l)) (some a) none H Q := sl_S (by rw [S_len]; exact big_line hl) (by rw [cut_fromI l ha]; exact q)
theorem sl_mid (ha : 0 ≤ a) (hb : 0 ≤ b) (hl : l.length ≤ 1000000) (q : Q (.str (S ((l.take b.toNat).drop a.toNat))) H) : rSL K (.str (S l)) (some a) (some b) H Q := sl_S (by rw [S_len]; exact big_line hl) (by rw [cut_midI l ha hb]; exact q)
theorem a_SS (hl : l.length + m.length ≤ 1000000) (q : Q (.str (S (l ++ m))) H) : rADD K (.str (S l)) (.str (S m)) H Q := a_ss (by rw [S_len, S_len]; exact big_line hl) (by rw [S_app]; exact q)
theorem ln_S (hl : l.length ≤ 1000000) (q : Q (.int l.length) H) : rLEN K [.str (S l)] H Q := ln_s (by rw [S_len]; exact big_line hl) (by rw [S_len]; exact q)
theorem ix_SS (h0 : 0 ≤ a) (h1 : a < (l.length : Int)) (hl : l.length ≤ 1000000) (q : ∀ c, l[a.toNat]? = some c → Q (.str (S [c])) H) : rIX K (.str (S l)) (.int a) H Q :=
  ix_S (by rw [S_len]; exact big_line hl) (at_in h0 h1) (q _ (List.getElem?_eq_getElem (by omega)))
theorem e_SS (q : Q (.bl (decide (l = m))) H) : rEQ K (.str (S l)) (.str (S m)) H Q := e_ss (by rw [S_eq]; exact q)
theorem ne_SS (q : Q (.bl (!decide (l = m))) H) : rNE K (.str (S l)) (.str (S m)) H Q := ne_ss (by rw [S_eq]; exact q)
theorem m_SI (h1 : a < 2 ^ 40) (h0 : 0 ≤ a) (hl : l.length * a.toNat ≤ 1000000) (q : Q (.str (S (List.replicate a.toNat l).flatten)) H) : rMUL K (.str (S l)) (.int a) H Q := m_si (by omega) (by omega) (by rw [S_len]; exact big_line hl) q
theorem jn_0 {p : Addr} {ys : List (List Nat)} (hp : SqL K H p ((ys.map S).map V.str)) (hl : ys.flatten.length ≤ 1000000) (q : Q (.str (S ys.flatten)) H) : rJoin K (.str (S [])) [.ref p] H Q := by
  refine ⟨S [], p, ys.map S, rfl, rfl, .inl hp, ?_, by rw [join_S]; exact q⟩
  have e : ((ys.map S).map (·.length)).sum = ys.flatten.length := by
    rw [List.length_flatten, List.map_map]
    apply congrArg List.sum
    exact List.map_congr_left fun l _ => S_len l
  rw [e, S_len]
  exact Nat.le_trans (by simpa using hl) (by decide)
end
/-! printing ASCII -/
def isT (l : List Nat) : Bool := l.all fun c => decide (32 ≤ c) && decide (c ≤ 126)
theorem printable_lt {c : Nat} (h : c < 128) : Unicode.isPrintable c = (decide (32 ≤ c) && decide (c ≤ 126)) := by
  have h2 : ∀ c : _root_.Fin 128, Unicode.isPrintable c.val = (decide (32 ≤ c.val) && decide (c.val ≤ 126)) := by decide +kernel
  exact h2 ⟨c, h⟩
theorem digit_lt {c : Nat} (h : c < 128) : Unicode.isDigit c = (decide (48 ≤ c) && decide (c ≤ 57)) := by
  have h2 : ∀ c : _root_.Fin 128, Unicode.isDigit c.val = (decide (48 ≤ c.val) && decide (c.val ≤ 57)) := by decide +kernel
  exact h2 ⟨c, h⟩
theorem is_text_eq (l : List Nat) : (Txt.isascii (S l) && Txt.isprintable (S l)) = isT l := by
  unfold Txt.isascii Txt.isprintable isT
  rw [← Array.all_toList, ← Array.all_toList, S_cps]
  induction l with
  | nil => rfl
  | cons c l ih =>
    simp only [List.all_cons]
    rw [← ih]
    by_cases h : c < 128
    · rw [printable_lt h, decide_eq_true h]
      cases (decide (32 ≤ c) && decide (c ≤ 126)) <;> cases (l.all fun x => decide (x < 128)) <;> cases (l.all Unicode.isPrintable) <;> rfl
    · rw [decide_eq_false h]
      have h2 : (decide (32 ≤ c) && decide (c ≤ 126)) = false := by
        rw [decide_eq_false (show ¬ c ≤ 126 by omega), Bool.and_false]
      rw [h2]
      rfl
def isD (l : List Nat) : Bool := l.all fun c => decide (48 ≤ c) && decide (c ≤ 57)
theorem isT_mem {l : List Nat} (h : isT l = true) {c : Nat} (hc : c ∈ l) : 32 ≤ c ∧ c ≤ 126 := by
  have z := List.all_eq_true.mp h c hc
  rw [Bool.and_eq_true, decide_eq_true_eq, decide_eq_true_eq] at z
  exact z
theorem isT_of {l : List Nat} (h : ∀ c ∈ l, 32 ≤ c ∧ c ≤ 126) : isT l = true := List.all_eq_true.mpr fun c hc => by
  rw [Bool.and_eq_true, decide_eq_true_eq, decide_eq_true_eq]
  exact h c hc
theorem isT_app {a b : List Nat} : isT (a ++ b) = (isT a && isT b) := List.all_append
theorem isT_take {a : List Nat} (n : Nat) (h : isT a = true) : isT (a.take n) = true := isT_of fun _ hc => isT_mem h (List.mem_of_mem_take hc)
theorem isT_drop {a : List Nat} (n : Nat) (h : isT a = true) : isT (a.drop n) = true := isT_of fun _ hc => isT_mem h (List.mem_of_mem_drop hc)
theorem isdigit_eq {l : List Nat} (h : isT l = true) : Txt.isdigit (S l) = (decide (l ≠ []) && isD l) := by
  unfold Txt.isdigit isD
  rw [← Array.all_toList, S_cps, S_len]
  have e : l.all Unicode.isDigit = l.all fun c => decide (48 ≤ c) && decide (c ≤ 57) := by
    rw [Bool.eq_iff_iff, List.all_eq_true, List.all_eq_true]
    constructor
    · intro z c hc
      rw [← digit_lt (by have := isT_mem h hc; omega)]
      exact z c hc
    · intro z c hc
      rw [digit_lt (by have := isT_mem h hc; omega)]
      exact z c hc
  rw [e]
  cases l with
  | nil => rfl
  | cons c l => simp
/-! lists of texts, of numbers -/
def TxtAll (n : Nat) (xs : List V) : Prop := ∀ x ∈ xs, ∃ l : List Nat, l.length ≤ n ∧ isT l = true ∧ x = V.str (S l)
theorem txt_nil {n : Nat} : TxtAll n [] := fun _ h => by cases h
theorem txt_cons {n : Nat} {l : List Nat} {xs : List V} (h1 : l.length ≤ n) (h2 : isT l = true) (h : TxtAll n xs) : TxtAll n (.str (S l) :: xs) := fun x hx => by
  rcases List.mem_cons.mp hx with rfl | hx
  · exact ⟨l, h1, h2, rfl⟩
  · exact h x hx
theorem txt_app {n : Nat} {xs ys : List V} (h1 : TxtAll n xs) (h2 : TxtAll n ys) : TxtAll n (xs ++ ys) := fun x hx => (List.mem_append.mp hx).elim (h1 x) (h2 x)
theorem ix_txt {K : PySem.W.Frag} {H : Hp} {Q : VK} {p : Addr} {zs : List V} {n : Nat} {i : Int} (hp : SqL K H p zs) (ha : TxtAll n zs) (h0 : 0 ≤ i) (h1 : i < (zs.length : Int)) (q : ∀ l : List Nat, l.length ≤ n → isT l = true → Q (.str (S l)) H) : rIX K (.ref p) (.int i) H Q := by
  refine ix_L hp (at_in h0 h1) ?_
  have hi : i.toNat < zs.length := by omega
  obtain ⟨l, a, b, e⟩ := ha zs[i.toNat] (List.getElem_mem hi)
  rw [e]
  exact q l a b
def IntAll (n : Nat) (xs : List V) : Prop := ∀ x ∈ xs, ∃ z : Nat, z < n ∧ x = V.int z
theorem int_nil {n : Nat} : IntAll n [] := fun _ h => by cases h
theorem int_cons {n : Nat} {i : Int} {xs : List V} (h0 : 0 ≤ i) (h1 : i < (n : Int)) (h : IntAll n xs) : IntAll n (.int i :: xs) := fun x hx => by
  rcases List.mem_cons.mp hx with rfl | hx
  · exact ⟨i.toNat, by omega, by rw [Int.toNat_of_nonneg h0]⟩
  · exact h x hx
theorem ix_int {K : PySem.W.Frag} {H : Hp} {Q : VK} {p : Addr} {zs : List V} {n : Nat} {i : Int} (hp : SqL K H p zs) (ha : IntAll n zs) (h0 : 0 ≤ i) (h1 : i < (zs.length : Int)) (q : ∀ z : Nat, z < n → Q (.int z) H) : rIX K (.ref p) (.int i) H Q := by
  refine ix_L hp (at_in h0 h1) ?_
  have hi : i.toNat < zs.length := by omega
  obtain ⟨z, a, e⟩ := ha zs[i.toNat] (List.getElem_mem hi)
  rw [e]
  exact q z a
def IntP (F : Nat → Prop) (xs : List V) : Prop := ∀ x ∈ xs, ∃ z : Nat, F z ∧ x = V.int z
theorem intp_nil {F : Nat → Prop} : IntP F [] := fun _ h => by cases h
theorem intp_cons {F : Nat → Prop} {i : Int} {xs : List V} (h0 : 0 ≤ i) (h1 : F i.toNat) (h : IntP F xs) : IntP F (.int i :: xs) := fun x hx => by
  rcases List.mem_cons.mp hx with rfl | hx
  · exact ⟨i.toNat, h1, by rw [Int.toNat_of_nonneg h0]⟩
  · exact h x hx
theorem ix_intp {K : PySem.W.Frag} {H : Hp} {Q : VK} {p : Addr} {zs : List V} {F : Nat → Prop} {i : Int} (hp : SqL K H p zs) (ha : IntP F zs) (h0 : 0 ≤ i) (h1 : i < (zs.length : Int)) (q : ∀ z : Nat, F z → Q (.int z) H) : rIX K (.ref p) (.int i) H Q := by
  refine ix_L hp (at_in h0 h1) ?_
  have hi : i.toNat < zs.length := by omega
  obtain ⟨z, a, e⟩ := ha zs[i.toNat] (List.getElem_mem hi)
  rw [e]
  exact q z a
/-! heaps -/
theorem same_upd {H : Hp} {p : Addr} {o : HO} (h : H p = none) : Same H (upd H p o) := fun b x e => by
  rw [upd_ne (ne_of_none e h)]
  exact e
theorem same_mut {R H : Hp} {p : Addr} {o : HO} (e : Same R H) (h : R p = none) : Same R (upd H p o) := fun a u ha => by
  rw [upd_ne (ne_of_none ha h)]
  exact e a u ha
theorem same_sqt {K : PySem.W.Frag} {H H' : Hp} {a : Addr} {xs : List V} (e : Same H H') (h : SqT K H a xs) : SqT K H' a xs := by
  rcases h with (h | ⟨o, h⟩) | h
  · exact .inl (.inl (e _ _ h))
  · exact .inl (.inr ⟨o, e _ _ h⟩)
  · exact .inr h
theorem same_new {R H : Hp} {p : Addr} {o : HO} (e : Same R H) (h : H p = none) : Same R (upd H p o) := e.trans (same_upd h)
theorem lst_of {K : PySem.W.Frag} {H : Hp} {a : Addr} {xs : List V} (h : H a = some (.lst xs)) : SqL K H a xs := .inl (.inl h)
theorem tup_of {K : PySem.W.Frag} {H : Hp} {a : Addr} {xs : List V} (h : H a = some (.tup xs)) : SqT K H a xs := .inl (.inl h)
mutual
theorem dp_mono {K : PySem.W.Frag} {H H' : Hp} (e : Same H H') : ∀ (d : PyData) (v : V), Dp K H v d → Dp K H' v d
  | _, _, .non => .non
  | _, _, .bl b => .bl b
  | _, _, .int i => .int i
  | _, _, .str x => .str x
  | .list ds, _, .lst h a => .lst (e.seq h) (dpAll_mono e ds _ a)
  | .tuple ds, _, .tup h a => .tup (same_sqt e h) (dpAll_mono e ds _ a)
theorem dpAll_mono {K : PySem.W.Frag} {H H' : Hp} (e : Same H H') : ∀ (ds : List PyData) (vs : List V), DpAll K H vs ds → DpAll K H' vs ds
  | _, _, .nil => .nil
  | d :: ds, v :: vs, .cons h t => .cons (dp_mono e d v h) (dpAll_mono e ds vs t)
end
theorem ne_new {H : Hp} {a p : Addr} {o : HO} (h : H a = some o) (hp : H p = none) : p ≠ a := fun e => by
  subst e
  rw [hp] at h
  cases h
end My

set_option Elab.async false
set_option linter.all false
set_option maxRecDepth 100000
set_option maxHeartbeats 400000
/-! ### data; isinstance; a comprehension over a range with a step -/
namespace My
open PySem PySem.Spec PyProof.Rows L2
def tyName : PyData → String
  | .none => "NoneType"
  | .bool _ => "bool"
  | .int _ => "int"
  | .str _ => "str"
  | .list _ => "list"
  | .tuple _ => "tuple"
  | .dict _ => "dict"
theorem tyx_l {K : PySem.W.Frag} {H : Hp} {a : Addr} {xs : List V} (h : SqL K H a xs) : TyX K H (.ref a) (.type "list") := by
  rcases h with (h | ⟨o, h⟩) | h
  · exact .base (.lst h)
  · exact .base (.frz h)
  · obtain ⟨o, its, n, h1, h2, _⟩ := h
    exact .kList h1 h2
theorem tyx_t {K : PySem.W.Frag} {H : Hp} {a : Addr} {xs : List V} (h : SqT K H a xs) : TyX K H (.ref a) (.type "tuple") := by
  rcases h with (h | ⟨o, h⟩) | h
  · exact .base (.tup h)
  · exact .fTuple h
  · obtain ⟨o, its, n, h1, h2, _⟩ := h
    exact .kTuple h1 h2
theorem tyx_d {K : PySem.W.Frag} {H : Hp} {x : V} {d : PyData} (h : Dp K H x d) : TyX K H x (.type (tyName d)) := by
  cases h with
  | non => exact .base .non
  | bl b => exact .base (.bl b)
  | int i => exact .base (.int i)
  | str z => exact .base (.str z)
  | lst h _ => exact tyx_l h
  | tup h _ => exact tyx_t h
section
variable {K : PySem.W.Frag} {H : Hp} {Q : VK} {x : V} {d : PyData}
theorem isi_d {n : String} {b : Bool} (h : Dp K H x d) (hb : kitB (tyName d) n = some b) (q : Q (.bl b) H) : rISI K [x, .ty n] H Q :=
  .inl ⟨x, .ty n, _, _, b, rfl, .ty n, tyx_d h, kit_ty hb, q⟩
theorem isi_d2 {n m : String} {p : Addr} {b : Bool} (h : Dp K H x d) (hp : H p = some (.tup [.ty n, .ty m])) {b1 b2 : Bool} (h1 : kitB (tyName d) n = some b1) (h2 : kitB (tyName d) m = some b2) (hb : b = (b1 || b2)) (q : Q (.bl b) H) : rISI K [x, .ref p] H Q := by
  refine .inr ⟨x, p, _, _, [.type n, .type m], b, rfl, hp, .cons (.ty n) (.cons (.ty m) .nil), tyx_d h, ?_, q⟩
  subst hb
  refine kitAny_cons (kit_ty h1) (fun e => ?_) (fun e => by rw [e]; rfl)
  rw [e, Bool.false_or]
  exact kitAny_cons (kit_ty h2) (fun e => by rw [e]; exact kitAny_nil) (fun e => e)
/-- the six answers of isinstance and is None -/
def kindsB (d : PyData) : List Bool := match d with
  | .none => [false, false, false, false, false, true]
  | .bool _ => [true, true, false, false, false, false]
  | .int _ => [false, true, false, false, false, false]
  | .str _ => [false, false, true, false, false, false]
  | .list _ => [false, false, false, false, true, false]
  | .tuple _ => [false, false, false, true, false, false]
  | .dict _ => []
/-- a list of booleans as data -/
theorem dp_bools {p : Addr} (bs : List Bool) (h : SqL K H p (bs.map V.bl)) : Dp K H (.ref p) (.list (bs.map PyData.bool)) := by
  refine .lst h ?_
  induction bs with
  | nil => exact .nil
  | cons b bs ih =>
    have ih' : DpAll K H (bs.map V.bl) (bs.map PyData.bool) := by
      clear ih h
      induction bs with
      | nil => exact .nil
      | cons c cs ih => exact .cons (.bl c) ih
    exact .cons (.bl b) ih'
theorem eqv_same {d : PyData} (h : SeqAt.shaped d = true) : PyData.eqv d d = true := by
  unfold SeqAt.shaped at h
  rw [Bool.and_eq_true] at h
  exact SeqAt.eqv_refl d h.1
theorem dpAll_get : ∀ {vs : List V} {ds : List PyData}, DpAll K H vs ds → ∀ {i : Nat} (hi : i < ds.length), ∃ v, vs[i]? = some v ∧ Dp K H v ds[i]
  | _, _, .nil, i, hi => absurd hi (Nat.not_lt_zero _)
  | _, _, .cons a b, 0, hi => ⟨_, rfl, a⟩
  | _, _, .cons a b, i + 1, hi => dpAll_get b (Nat.lt_of_succ_lt_succ hi)
theorem dpAll_len : ∀ {vs : List V} {ds : List PyData}, DpAll K H vs ds → vs.length = ds.length
  | _, _, .nil => rfl
  | _, _, .cons a b => by rw [List.length_cons, List.length_cons, dpAll_len b]
end
/-- a comprehension over range(a, b, c) -/
theorem lc_rangeC {lo c : Int} {n : Nat} {g : TG} {tt : TT} {te : TE} {vs : List Nat} {σ : L2.St} {H1 : Hp} {D : Addr} {Qd : Hp → Prop} (Pv : Nat → Hp → Prop) (h0 : Pv 0 (upd H1 D (.lst [])))
    (hs : ∀ i H, i < n → Pv i H → g (.int (lo + (i : Nat) * c)) (wipe σ vs) H fun σ2 H2 => wipe σ2 vs = wipe σ vs ∧ tt σ2 H2 fun b H3 =>
      if b = true then te σ2 H3 fun y H4 => ∃ acc, H4 D = some (.lst acc) ∧ acc.length < sizeLine ∧ Pv (i + 1) (upd H4 D (.lst (acc ++ [y]))) else Pv (i + 1) H3) (hd : ∀ H, Pv n H → Qd H) :
    ∃ W : Nat → Nat → Hp → Prop, (∃ m, W 0 m (upd H1 D (.lst []))) ∧ ∀ i m H, W i m H →
      ((Itc lo c n).stop i H ∧ Qd H) ∨ ((Itc lo c n).go i H ∧ ∃ Nx : Hp → Prop, (∀ H', Nx H' → ∃ m', m' < m ∧ W (i + 1) m' H') ∧ ∀ x H', (Itc lo c n).yld i H x H' → g x (wipe σ vs) H' fun σ2 H2 => wipe σ2 vs = wipe σ vs ∧ tt σ2 H2 fun b H3 =>
        if b = true then te σ2 H3 fun y H4 => ∃ acc, H4 D = some (.lst acc) ∧ acc.length < sizeLine ∧ Nx (upd H4 D (.lst (acc ++ [y]))) else Nx H3) := by
  refine ⟨fun i m H => m = n - i ∧ i ≤ n ∧ Pv i H, ⟨n, by simp, Nat.zero_le _, h0⟩, ?_⟩
  rintro i m H ⟨rfl, hi, p⟩
  by_cases hlt : i < n
  · refine .inr ⟨hlt, Pv (i + 1), fun H' p' => ⟨n - (i + 1), by omega, rfl, hlt, p'⟩, fun x H' y => ?_⟩
    obtain ⟨rfl, rfl⟩ := y
    exact hs i _ hlt p
  · have e : i = n := by omega
    subst e
    exact .inl ⟨Nat.le_refl _, hd H p⟩
theorem rsize_pos {m f : Nat} (h1 : 1 ≤ m) (hf : 1 ≤ f) : Builtin.Range.rangeSize 0 (m : Int) (f : Int) = (((m - 1) / f + 1 : Nat) : Int) := by
  unfold Builtin.Range.rangeSize
  rw [if_pos (by omega), if_pos (by omega), Int.sub_zero, show (m : Int) - 1 = ((m - 1 : Nat) : Int) by omega]
  rfl
theorem small_pos {m f : Nat} (h1 : 1 ≤ m) (h2 : m ≤ 1000000) (hf : 1 ≤ f) (hf2 : f ≤ 1000000) : Builtin.Range.small 0 (m : Int) (f : Int) = true := by
  unfold Builtin.Range.small
  rw [rsize_pos h1 hf]
  simp only [Builtin.Range.rangeFitsLong, Bool.and_eq_true, Bool.or_eq_true, decide_eq_true_eq, beq_iff_eq, show ((f : Int) > 0) by omega, if_true]
  have h3 := Nat.div_le_self (m - 1) f
  generalize (m - 1) / f = q at *
  omega
/-! one sign in figures -/
theorem lit_figs : ("0123456789" : Str) = S [48, 49, 50, 51, 52, 53, 54, 55, 56, 57] := rfl
theorem find_fig (c : Nat) : Txt.find (S [48, 49, 50, 51, 52, 53, 54, 55, 56, 57]) (S [c]) = if 48 ≤ c ∧ c ≤ 57 then ((c - 48 : Nat) : Int) else -1 := by
  by_cases h : 48 ≤ c ∧ c ≤ 57
  · rw [if_pos h]
    have h2 : ∀ k : _root_.Fin 10, Txt.find (S [48, 49, 50, 51, 52, 53, 54, 55, 56, 57]) (S [48 + k.val]) = (k.val : Int) := by decide +kernel
    have e := h2 ⟨c - 48, by omega⟩
    rw [show 48 + (c - 48) = c by omega] at e
    exact e
  · rw [if_neg h]
    have e := SX.in_one [48, 49, 50, 51, 52, 53, 54, 55, 56, 57] c
    have h3 : decide (c ∈ [48, 49, 50, 51, 52, 53, 54, 55, 56, 57]) = false := decide_eq_false fun hm => h (by
      simp only [List.mem_cons, List.not_mem_nil, or_false] at hm
      omega)
    rw [h3, Bool.not_eq_false'] at e
    unfold Txt.find
    rw [List.isEmpty_iff] at e
    show (match Builtin.Str.occurrences (SX.S _) (SX.S [c]) 0 (SX.S _).length 1 with | i :: _ => (i : Int) | [] => -1) = -1
    rw [e]
/-! figures of a number -/
def figs : Nat → Nat → List Nat
  | 0, _ => []
  | w + 1, n => figs w (n / 10) ++ [48 + n % 10]
theorem figs_len : ∀ w n, (figs w n).length = w
  | 0, _ => rfl
  | w + 1, n => by rw [figs, List.length_append, figs_len w]; rfl
theorem digitChar_nat {n : Nat} (h : n < 10) : n.digitChar.toNat = 48 + n := by
  have h2 : ∀ k : _root_.Fin 10, k.val.digitChar.toNat = 48 + k.val := by decide
  exact h2 ⟨n, h⟩
theorem toDigits_len10 {w n : Nat} (h : n < 10 ^ w) (hw : 0 < w) : (Nat.toDigits 10 n).length ≤ w := by
  have h1 := (Nat.length_repr_le_iff (n := n) (k := w) hw).mpr h
  rwa [← String.length_toList, Nat.toList_repr] at h1
def pad (w n : Nat) : List Nat := List.replicate (w - (Nat.toDigits 10 n).length) 48 ++ (Nat.toDigits 10 n).map Char.toNat
theorem zpad_S (w n : Nat) : zpad w (n : Int) = S (pad w n) := rfl
theorem figs_zero : ∀ w, figs w 0 = List.replicate w 48
  | 0 => rfl
  | w + 1 => by
    rw [figs, Nat.zero_div, Nat.zero_mod, figs_zero w, List.replicate_succ']
theorem pad_figs : ∀ (w n : Nat), n < 10 ^ w → 0 < w → pad w n = figs w n
  | 0, _, _, h => absurd h (Nat.lt_irrefl _)
  | w + 1, n, h, _ => by
    by_cases hn : n < 10
    · unfold pad
      rw [Nat.toDigits_of_lt_base hn]
      show List.replicate (w + 1 - 1) 48 ++ [n.digitChar.toNat] = figs (w + 1) n
      rw [figs, digitChar_nat hn, Nat.div_eq_of_lt hn, Nat.mod_eq_of_lt hn, figs_zero]
      rfl
    · have hw : 0 < w := by
        rcases Nat.eq_zero_or_pos w with e | e
        · subst e
          simp at h
          omega
        · exact e
      have h2 : n / 10 < 10 ^ w := by
        rw [Nat.div_lt_iff_lt_mul (by decide)]
        rwa [Nat.pow_succ] at h
      have ih := pad_figs w (n / 10) h2 hw
      have hl := toDigits_len10 h2 hw
      rw [figs, ← ih]
      unfold pad
      rw [Nat.toDigits_of_base_le (by decide) (by omega), List.length_append, List.map_append, ← List.append_assoc]
      show List.replicate (w + 1 - ((Nat.toDigits 10 (n / 10)).length + 1)) 48 ++ _ ++ [(n % 10).digitChar.toNat] = _
      rw [digitChar_nat (Nat.mod_lt _ (by decide)), show w + 1 - ((Nat.toDigits 10 (n / 10)).length + 1) = w - (Nat.toDigits 10 (n / 10)).length by omega]
theorem figs_isD : ∀ w n, isD (figs w n) = true
  | 0, _ => rfl
  | w + 1, n => by
    show List.all (figs (w + 1) n) _ = true
    rw [figs, List.all_append]
    have e : (figs w (n / 10)).all (fun c => decide (48 ≤ c) && decide (c ≤ 57)) = true := figs_isD w (n / 10)
    rw [e, Bool.true_and]
    have := Nat.mod_lt n (show 10 > 0 by decide)
    simp
    omega
theorem digitsVal_snoc (a : List Nat) (c : Nat) : NumText.digitsVal (a ++ [c]) = NumText.digitsVal a * 10 + (c - 48) := by
  unfold NumText.digitsVal
  rw [List.foldl_append]
  rfl
theorem digitsVal_figs : ∀ w n, n < 10 ^ w → NumText.digitsVal (figs w n) = n
  | 0, n, h => by
    have : n = 0 := by simpa using h
    subst this
    rfl
  | w + 1, n, h => by
    rw [figs, digitsVal_snoc, digitsVal_figs w (n / 10) (by rw [Nat.div_lt_iff_lt_mul (by decide)]; rwa [Nat.pow_succ] at h)]
    omega
theorem isD_isT {l : List Nat} (h : isD l = true) : isT l = true := isT_of fun c hc => by
  have z := List.all_eq_true.mp h c hc
  rw [Bool.and_eq_true, decide_eq_true_eq, decide_eq_true_eq] at z
  omega
end My

set_option Elab.async false
set_option linter.all false
set_option maxRecDepth 100000
set_option maxHeartbeats 400000
/-! ### the greatest, with one for none; noughts ahead -/
namespace My
open PySem PySem.Spec PyProof.Rows L2
theorem maxOf_int (x : Int) : ∀ xs : List Int, PySem.W.maxOf x xs ∈ x :: xs ∧ ∀ y ∈ x :: xs, y ≤ PySem.W.maxOf x xs := by
  intro xs
  unfold PySem.W.maxOf
  induction xs generalizing x with
  | nil => exact ⟨List.mem_singleton.mpr rfl, fun y hy => by rw [List.mem_singleton.mp hy]; exact Int.le_refl _⟩
  | cons z zs ih =>
    rw [List.foldl_cons]
    have e : PySem.W.DatumOrd.lt x z = decide (x < z) := rfl
    rw [e]
    by_cases h : x < z
    · rw [if_pos (decide_eq_true h)]
      obtain ⟨h1, h2⟩ := ih z
      refine ⟨List.mem_cons_of_mem _ h1, fun y hy => ?_⟩
      rcases List.mem_cons.mp hy with rfl | hy
      · exact Int.le_trans (Int.le_of_lt h) (h2 z (List.mem_cons_self ..))
      · exact h2 y hy
    · rw [if_neg (by rw [decide_eq_false h]; decide)]
      obtain ⟨h1, h2⟩ := ih x
      refine ⟨?_, fun y hy => ?_⟩
      · rcases List.mem_cons.mp h1 with h1 | h1
        · rw [h1]; exact List.mem_cons_self ..
        · exact List.mem_cons_of_mem _ (List.mem_cons_of_mem _ h1)
      · rcases List.mem_cons.mp hy with rfl | hy
        · exact h2 _ (List.mem_cons_self ..)
        · rcases List.mem_cons.mp hy with rfl | hy
          · exact Int.le_trans (by omega) (h2 x (List.mem_cons_self ..))
          · exact h2 y (List.mem_cons_of_mem _ hy)
section
variable {X : Cx}
def rMAXD (K : PySem.W.Frag) : List V → List V → Hp → VK → Prop := fun xs zs H Q => ∃ (a : Addr) (ns : List Int) (d : V), xs = [.ref a] ∧ zs = [d] ∧ SqL K H a (ns.map V.int) ∧ (ns = [] → Q d H) ∧ ∀ m, m ∈ ns → (∀ y, y ∈ ns → y ≤ m) → Q (.int m) H
theorem call_MAXD (hc : X.calm = true) (hu : X.A.units + 64 < cLine) : CallRK X (.builtin "max") ["default"] (rMAXD X.K) := by
  intro pins s σ H xs zs us ws Q I rx rz h
  obtain ⟨a, ns, d, rfl, rfl, hs, q0, q⟩ := h
  obtain ⟨its, rv, hl, _⟩ := I.list hs
  rw [Vals.ref1 rx]
  cases rz with
  | cons r1 r2 =>
    cases r2
    rename_i w
    have hi : IntsAre its ns := rv.ints
    refine PySem.W.max_list_datum_default (xs := ns) (I.ok.hd hc) hl.isList ?_ ?_ (fun e h' tk hk => ⟨d, H, I.kept hk, r1, q0 e⟩) fun y ys i v h' tk e hv hh hk => ?_
    · rw [List.toList_toArray]
      exact PySem.W.HoldAll.of_ints hi
    · show X.A.units + 1 + 0 < cLine
      omega
    · subst e
      obtain ⟨m1, m2⟩ := maxOf_int y ys
      obtain ⟨as, hr⟩ := hh
      have hr' : Reads h' v (.int (PySem.W.maxOf y ys)) as := hr
      cases hr' with
      | int _ t => exact ⟨.int _, H, I.kept hk, ⟨t, rfl⟩, q _ m1 m2⟩
end
end My
namespace PySem
open Builtin Builtin.Str Builtin.Int
theorem my_gives_rjust3 (x : Str) (i : Int) (c : Nat) (t u v : Tok) (hr : (decide (i < -(2 ^ 63 : Int)) || decide (i ≥ 2 ^ 63)) = false) (hl : tooLong i.toNat = false) :
    Gives («str.rjust» ⟨[.str x t, .int i u, .str ⟨#[c]⟩ v], []⟩) (if i ≤ x.length then .val (.str x t) else .str (padded x (i.toNat - x.length) 0 c)) := by
  show Gives (do
             let width ← asSsize s!"str.{"rjust"}" (.int i u)
             if width ≤ x.length then (do rule s!"str.{"rjust"}.long-enough"; ret (.str x t)) else
             if tooLong width.toNat = true then unsupported s!"str.{"rjust"}:memory" else retStr (padded x (width.toNat - x.length) 0 c)) _
  rw [asSsize_int _ _ _ hr]
  show Gives (if i ≤ x.length then (do rule s!"str.{"rjust"}.long-enough"; ret (.str x t)) else if tooLong i.toNat = true then unsupported s!"str.{"rjust"}:memory" else retStr (padded x (i.toNat - x.length) 0 c)) _
  rw [hl]
  by_cases h : i ≤ (x.length : Int)
  · rw [if_pos h, if_pos h]; exact .rule (.of_eq rfl)
  · rw [if_neg h, if_neg h]; exact .of_eq rfl
def myRjust (x : Str) (i : Int) (c : Nat) : Str := if i ≤ x.length then x else padded x (i.toNat - x.length) 0 c
theorem my_rjust3 {prog : Program} {w : World} {A : Around} {E : Value → Shared → Prop} {s : Shared} {Q : Value → Shared → Prop} {x : Str} {t : Tok} {i : Int} {c : Nat} {u v : Tok} (hp : PadOk i = true) (hq : ∀ t' k, Q (.str (myRjust x i c) t') { s with toks := k }) : wpAny (model prog w) A (call (.builtin "str.rjust") [.str x t, .int i u, .str ⟨#[c]⟩ v]) Q E s :=
  call_gives F.slot_str_rjust (typeIs_str _ _ _) F.entry_str_rjust (F.args_str_rjust_3 _ _ _) (my_gives_rjust3 x i c t u v (PadOk.parts hp).1 (PadOk.parts hp).2) (post_val_or_made (fits_padL c (PadOk.parts hp).2) hq)
end PySem
namespace My
open PySem PySem.Spec PyProof.Rows L2
section
variable {X : Cx}
def rM_rjust2 : V → List V → Hp → VK → Prop := fun x xs H Q => ∃ (a : Str) (i : Int) (c : Nat), x = .str a ∧ xs = [.int i, .str ⟨#[c]⟩] ∧ PadOk i = true ∧ Q (.str (myRjust a i c)) H
theorem mt_RJUST2 : MtR X "str.rjust" rM_rjust2 := by
  intro pins s σ H x xs v us Q I rx rs h
  obtain ⟨a, i, c, rfl, rfl, hc, h⟩ := h
  obtain ⟨t, rfl⟩ := rx
  cases rs with
  | cons r1 rs =>
    cases rs with
    | cons r2 rs =>
      cases rs
      obtain ⟨u, rfl⟩ := r1
      obtain ⟨z, rfl⟩ := r2
      exact my_rjust3 hc fun t' k => ⟨.str (myRjust a i c), H, I.tok k, ⟨t', rfl⟩, h⟩
end
theorem rj_S (l : List Nat) (w c : Nat) : myRjust (S l) (w : Int) c = S (List.replicate (w - l.length) c ++ l) := by
  unfold myRjust
  rw [S_len]
  by_cases h : (w : Int) ≤ l.length
  · rw [if_pos h, show w - l.length = 0 by omega]
    rfl
  · rw [if_neg h]
    unfold Builtin.Str.padded
    show (⟨_⟩ : Str) = ⟨_⟩
    congr 1
    apply Array.ext'
    simp
theorem numL_eq (n : Nat) : TL.numL n = (Nat.toDigits 10 n).map Char.toNat := by
  unfold TL.numL
  simp
theorem rj_num (n : Nat) : myRjust (Str.ofString (toString (n : Int))) 6 48 = S (pad 6 n) := by
  rw [SX.num_S]
  have e := rj_S (TL.numL n) 6 48
  rw [numL_eq, List.length_map] at e
  rw [numL_eq]
  exact e
end My

set_option Elab.async false
set_option linter.all false
set_option maxRecDepth 100000
set_option maxHeartbeats 400000
/-! ### unpacking, slices of lists and tuples, appending -/
namespace My
open PySem PySem.Spec PyProof.Rows L2
section
variable {K : PySem.W.Frag} {H : Hp} {Q : VK} {σ : L2.St} {v x : V} {r : List V}
theorem x_gc {t : TG} {u : TGs} {N : L2.St → Hp → Prop} (h : t v σ H fun σ' H' => u r σ' H' N) : gCons t u (v :: r) σ H N := ⟨v, r, rfl, h⟩
theorem x_gz {N : L2.St → Hp → Prop} (h : N σ H) : gNil [] σ H N := ⟨rfl, h⟩
theorem gt_T {a : Addr} {xs : List V} {n : Nat} {t : TGs} {N : L2.St → Hp → Prop} (hs : SqT K H a xs) (hl : xs.length = n) (h : t xs σ H N) : gTup K n t (.ref a) σ H N := ⟨a, xs, rfl, hs, hl, h⟩
theorem x_ckw {rr : List V → List V → Hp → VK → Prop} {ta tk : TA} (h : ta σ H fun vs H1 => tk σ H1 fun zs H2 => rr vs zs H2 Q) : tCKw rr ta tk σ H Q := h
theorem ap_L {p : Addr} {xs : List V} {y : V} (hp : H p = some (.lst xs)) (hl : xs.length ≤ 1000000) (h : Q .non (upd H p (.lst (xs ++ [y])))) : rAppend (.ref p) [y] H Q := ⟨p, xs, y, rfl, rfl, hp, Nat.lt_of_le_of_lt hl (by decide), h⟩
theorem cutV_mid (xs : List V) (a b : Nat) : cutV xs (some (a : Int)) (some (b : Int)) = (xs.take b).drop a := by
  unfold cutV
  rw [HT.sIx_nat, HT.sIx_nat, List.drop_take]
  rcases Nat.le_total a xs.length with h | h
  · rw [Nat.min_eq_left h]
    rcases Nat.le_total b xs.length with h2 | h2
    · rw [Nat.min_eq_left h2]
    · rw [Nat.min_eq_right h2, List.take_of_length_le (by rw [List.length_drop]; exact Nat.le_refl _), List.take_of_length_le (by rw [List.length_drop]; omega)]
  · rw [Nat.min_eq_right h, List.drop_eq_nil_of_le h]
    simp
theorem cutV_from (xs : List V) (a : Nat) : cutV xs (some (a : Int)) none = xs.drop a := by
  unfold cutV
  rw [HT.sIx_nat, HT.sIx_none]
  rcases Nat.le_total a xs.length with h | h
  · rw [Nat.min_eq_left h]
    exact List.take_of_length_le (by rw [List.length_drop]; exact Nat.le_refl _)
  · rw [Nat.min_eq_right h, List.drop_eq_nil_of_le h]
    simp
theorem cutV_to (xs : List V) (b : Nat) : cutV xs none (some (b : Int)) = xs.take b := by
  unfold cutV
  rw [HT.sIx_nat, HT.sIx_none, List.drop_zero, Nat.sub_zero]
  rcases Nat.le_total b xs.length with h | h
  · rw [Nat.min_eq_left h]
  · rw [Nat.min_eq_right h, List.take_of_length_le (Nat.le_refl _), List.take_of_length_le h]
theorem sl_T {a : Addr} {xs : List V} {lo hi : Option Int} (hs : SqT K H a xs) (h : ∀ p H', Same H H' → SqT K H' p (cutV xs lo hi) → Q (.ref p) H') : rSL K (.ref a) lo hi H Q := by
  refine .inr (.inr ⟨a, xs, rfl, hs, fun e => ?_, fun _ p hp => h p _ (same_upd hp) (tup_of upd_same)⟩)
  refine h a H (Same.refl H) ?_
  have e2 : cutV xs lo hi = xs := by
    unfold cutV
    rw [e.1, e.2, List.drop_zero, Nat.sub_zero, List.take_of_length_le (Nat.le_refl _)]
  rw [e2]
  exact hs
theorem sl_any {l : List Nat} {lo hi : Option Int} (hl : l.length ≤ 1000000) (hT : isT l = true) (q : ∀ l', l'.length ≤ l.length → isT l' = true → Q (.str (S l')) H) : rSL K (.str (S l)) lo hi H Q := by
  refine sl_S (by rw [S_len]; exact big_line hl) ?_
  unfold cutS
  rw [S_cps]
  refine q _ ?_ (isT_take _ (isT_drop _ hT))
  rw [List.length_take, List.length_drop]
  omega
theorem mx_L {a : Addr} {ns : List Int} (hs : SqL K H a (ns.map V.int)) (h0 : 0 < ns.length) (q : ∀ m, m ∈ ns → (∀ y, y ∈ ns → y ≤ m) → Q (.int m) H) : rMax K [.ref a] H Q := ⟨a, ns, rfl, hs, h0, q⟩
theorem mxd_L {a : Addr} {ns : List Int} {d : V} (hs : SqL K H a (ns.map V.int)) (h0 : ns = [] → Q d H) (q : ∀ m, m ∈ ns → (∀ y, y ∈ ns → y ≤ m) → Q (.int m) H) : rMAXD K [.ref a] [d] H Q := ⟨a, ns, d, rfl, rfl, hs, h0, q⟩
theorem tu_L {a : Addr} {xs : List V} (hs : SqL K H a xs) (h : ∀ l, H l = none → Q (.ref l) (upd H l (.tup xs))) : rTUPLE K [.ref a] H Q := ⟨a, xs, rfl, .inl ⟨hs, h⟩⟩
end
end My

set_option Elab.async false
set_option linter.all false
set_option maxRecDepth 100000
set_option maxHeartbeats 400000
/-! ### small letters; the least of a list -/
namespace My
open PySem PySem.Spec PyProof.Rows L2
def rM_lower : V → List V → Hp → VK → Prop := fun x xs H Q => ∃ a, x = .str a ∧ xs = [] ∧ a.length ≤ 5592405 ∧ Q (.str (Txt.lower a)) H
theorem lo1_T {c : Nat} (h0 : 32 ≤ c) (h1 : c ≤ 126) : 32 ≤ lo1 c ∧ lo1 c ≤ 126 := by
  have h2 : ∀ c : _root_.Fin 127, 32 ≤ c.val → 32 ≤ lo1 c.val ∧ lo1 c.val ≤ 126 := by decide +kernel
  exact h2 ⟨c, by omega⟩ h0
theorem lw_S {H : Hp} {Q : VK} {l : List Nat} (hl : l.length ≤ 1000000) (hT : isT l = true) (q : ∀ l' : List Nat, l'.length = l.length → isT l' = true → Q (.str (S l')) H) : rM_lower (.str (S l)) [] H Q := by
  refine ⟨S l, rfl, rfl, by rw [S_len]; omega, ?_⟩
  have e : Txt.lower (S l) = S (l.map lo1) := SX.lower_S (List.all_eq_true.mpr fun c hc => decide_eq_true (by have := isT_mem hT hc; omega))
  rw [e]
  refine q _ (List.length_map ..) (isT_of fun c hc => ?_)
  obtain ⟨d, hd, rfl⟩ := List.mem_map.mp hc
  have := isT_mem hT hd
  exact lo1_T this.1 this.2
theorem lcS_mk {H : Hp} {Q : VK} {σ : L2.St} {g : TG} {t : TT} {te : TE} {ws : List Nat} {l : List Nat} (Pv : Addr → Nat → Hp → Prop) (h0 : ∀ D, H D = none → Pv D 0 (upd H D (.lst [])))
    (hs : ∀ D i c H', H D = none → l[i]? = some c → Pv D i H' → g (.str (S [c])) (wipe σ ws) H' fun σ2 H2 => wipe σ2 ws = wipe σ ws ∧ t σ2 H2 fun b H3 => if b = true then te σ2 H3 fun y H4 => ∃ acc, H4 D = some (.lst acc) ∧ acc.length < sizeLine ∧ Pv D (i + 1) (upd H4 D (.lst (acc ++ [y]))) else Pv D (i + 1) H3)
    (hd : ∀ D H', H D = none → Pv D l.length H' → Q (.ref D) H') : LcS g t te ws σ Q (.str (S l)) H := by
  refine ⟨S l, rfl, fun D hD => ⟨fun i m H' => m = l.length - i ∧ i ≤ l.length ∧ Pv D i H', ⟨l.length, by simp, Nat.zero_le _, h0 D hD⟩, ?_⟩⟩
  rintro i m H' ⟨rfl, hi, p⟩
  have hsz : (S l).cps.size = l.length := rfl
  by_cases hlt : i < l.length
  · refine .inr ⟨by show i < (S l).cps.size; rw [hsz]; exact hlt, Pv D (i + 1), fun H2 p' => ⟨l.length - (i + 1), by omega, rfl, hlt, p'⟩, fun x H2 y => ?_⟩
    obtain ⟨rfl, c, hc, rfl⟩ := y
    refine hs D i c _ hD ?_ p
    have e : (S l).cps = l.toArray := rfl
    rw [e] at hc
    simpa using hc
  · have e : i = l.length := by omega
    subst e
    exact .inl ⟨by show (S l).cps.size ≤ l.length; rw [hsz]; exact Nat.le_refl _, hd D H' hD p⟩
section
variable {K : PySem.W.Frag} {H : Hp} {Q : VK}
theorem mn_L {a : Addr} {ns : List Int} (hs : SqL K H a (ns.map V.int)) (h0 : 0 < ns.length) (q : ∀ m, m ∈ ns → (∀ y, y ∈ ns → m ≤ y) → Q (.int m) H) : rMin K [.ref a] H Q := ⟨a, ns, rfl, hs, h0, q⟩
end
end My

set_option Elab.async false
set_option linter.all false
set_option maxRecDepth 100000
set_option maxHeartbeats 4000000
namespace My
open PySem PySem.Spec PyProof.Rows L2
/-! ### the text -/
def topS (i : Nat) : Stmt := PySem.Challenge.pw_heldpasts_k14_texts_of_nodes.main.body.getD i (.Pass ⟨0, 0, 0, 0⟩)
abbrev s_is_text : Stmt := topS 1
theorem sc_is_text : FnScope ["value"] ["value"] (defScope s_is_text) := ⟨rfl, rfl, rfl, by decide +kernel, rfl, by decide +kernel, by decide +kernel⟩
-- is_text: 0 value
abbrev s_number_at : Stmt := topS 2
theorem sc_number_at : FnScope ["text", "at", "size", "word"] ["text", "at", "size"] (defScope s_number_at) := ⟨rfl, rfl, rfl, by decide +kernel, rfl, by decide +kernel, by decide +kernel⟩
-- number_at: 0 text, 1 at, 2 size, 3 word
abbrev s_entry_room : Stmt := topS 4
theorem sc_entry_room : FnScope ["signs"] ["signs"] (defScope s_entry_room) := ⟨rfl, rfl, rfl, by decide +kernel, rfl, by decide +kernel, by decide +kernel⟩
-- entry_room: 0 signs
abbrev s_node_text : Stmt := topS 5
theorem sc_node_text : FnScope ["node", "key", "value", "marks", "kids", "pages", "kid", "mark"] ["node"] (defScope s_node_text) := ⟨rfl, rfl, rfl, by decide +kernel, rfl, by decide +kernel, by decide +kernel⟩
-- node_text: 0 node, 1 key, 2 value, 3 marks, 4 kids, 5 pages, 6 kid, 7 mark
abbrev s_node_told : Stmt := topS 6
theorem sc_node_told : FnScope ["text"] ["text"] (defScope s_node_told) := ⟨rfl, rfl, rfl, by decide +kernel, rfl, by decide +kernel, by decide +kernel⟩
-- node_told: 0 text
abbrev s_leaf_told : Stmt := topS 7
theorem sc_leaf_told : FnScope ["text", "entries", "at", "start", "middle", "key_size", "value_size"] ["text"] (defScope s_leaf_told) := ⟨rfl, rfl, rfl, by decide +kernel, rfl, by decide +kernel, by decide +kernel⟩
-- leaf_told: 0 text, 1 entries, 2 at, 3 start, 4 middle, 5 key_size, 6 value_size
abbrev s_inner_told : Stmt := topS 8
theorem sc_inner_told : FnScope ["text", "many", "kids", "place", "at", "marks", "_", "size", "start"] ["text"] (defScope s_inner_told) := ⟨rfl, rfl, rfl, by decide +kernel, rfl, by decide +kernel, by decide +kernel⟩
-- inner_told: 0 text*, 1 many, 2 kids, 3 place, 4 at, 5 marks, 6 _, 7 size, 8 start
abbrev s__law_flow : Stmt := topS 10
theorem sc__law_flow : FnScope ["_law_script"] ["_law_script"] (defScope s__law_flow) := ⟨rfl, rfl, rfl, by decide +kernel, rfl, by decide +kernel, by decide +kernel⟩
-- _law_flow: 0 _law_script
abbrev s__law_draw : Stmt := topS 11
theorem sc__law_draw : FnScope ["_law_flow_here", "_law_many", "_law_cell", "_law_rest", "_law_found", "_law_turn", "_law_mixed"] ["_law_flow_here", "_law_many"] (defScope s__law_draw) := ⟨rfl, rfl, rfl, by decide +kernel, rfl, by decide +kernel, by decide +kernel⟩
-- _law_draw: 0 _law_flow_here, 1 _law_many, 2 _law_cell, 3 _law_rest, 4 _law_found, 5 _law_turn, 6 _law_mixed
abbrev s__law_sign : Stmt := topS 12
theorem sc__law_sign : FnScope ["_law_flow_here", "_law_menu"] ["_law_flow_here"] (defScope s__law_sign) := ⟨rfl, rfl, rfl, by decide +kernel, rfl, by decide +kernel, by decide +kernel⟩
-- _law_sign: 0 _law_flow_here, 1 _law_menu
abbrev s__law_text : Stmt := topS 13
theorem sc__law_text : FnScope ["_law_flow_here", "_law_most", "_law_upto", "_law_long", "_law_part_here", "_law_k", "_law_text_here", "_law_at"] ["_law_flow_here", "_law_most"] (defScope s__law_text) := ⟨rfl, rfl, rfl, by decide +kernel, rfl, by decide +kernel, by decide +kernel⟩
-- _law_text: 0 _law_flow_here*, 1 _law_most, 2 _law_upto, 3 _law_long, 4 _law_part_here, 5 _law_k, 6 _law_text_here, 7 _law_at
abbrev s__law_same : Stmt := topS 14
theorem sc__law_same : FnScope ["_law_found", "_law_due", "_law_k"] ["_law_found", "_law_due"] (defScope s__law_same) := ⟨rfl, rfl, rfl, by decide +kernel, rfl, by decide +kernel, by decide +kernel⟩
-- _law_same: 0 _law_found*, 1 _law_due*, 2 _law_k
abbrev s__law_part : Stmt := topS 15
theorem sc__law_part : FnScope ["_law_text_here", "_law_at", "_law_many", "_law_part_here", "_law_sign_here"] ["_law_text_here", "_law_at", "_law_many"] (defScope s__law_part) := ⟨rfl, rfl, rfl, by decide +kernel, rfl, by decide +kernel, by decide +kernel⟩
-- _law_part: 0 _law_text_here, 1 _law_at, 2 _law_many, 3 _law_part_here, 4 _law_sign_here
abbrev s__law_node_text : Stmt := topS 16
theorem sc__law_node_text : FnScope ["_law_node_here", "_law_rows", "_law_key", "_law_value", "_law_kids", "_law_kid", "_law_mark"] ["_law_node_here"] (defScope s__law_node_text) := ⟨rfl, rfl, rfl, by decide +kernel, rfl, by decide +kernel, by decide +kernel⟩
-- _law_node_text: 0 _law_node_here, 1 _law_rows, 2 _law_key, 3 _law_value, 4 _law_kids, 5 _law_kid, 6 _law_mark
abbrev s__law_leaf_told : Stmt := topS 17
theorem sc__law_leaf_told : FnScope ["_law_text_here", "_law_rows", "_law_at", "_law_end", "_law_one", "_law_other"] ["_law_text_here"] (defScope s__law_leaf_told) := ⟨rfl, rfl, rfl, by decide +kernel, rfl, by decide +kernel, by decide +kernel⟩
-- _law_leaf_told: 0 _law_text_here, 1 _law_rows, 2 _law_at, 3 _law_end, 4 _law_one, 5 _law_other
abbrev s__law_node_told : Stmt := topS 18
theorem sc__law_node_told : FnScope ["_law_text_here", "_law_rows", "_law_many", "_law_kids", "_law_k", "_law_marks", "_law_at", "_law_long"] ["_law_text_here"] (defScope s__law_node_told) := ⟨rfl, rfl, rfl, by decide +kernel, rfl, by decide +kernel, by decide +kernel⟩
-- _law_node_told: 0 _law_text_here*, 1 _law_rows, 2 _law_many, 3 _law_kids, 4 _law_k, 5 _law_marks, 6 _law_at, 7 _law_long
abbrev s__law_node : Stmt := topS 19
theorem sc__law_node : FnScope ["_law_flow_here", "_law_most", "_law_k", "_law_many", "_law_kids"] ["_law_flow_here"] (defScope s__law_node) := ⟨rfl, rfl, rfl, by decide +kernel, rfl, by decide +kernel, by decide +kernel⟩
-- _law_node: 0 _law_flow_here*, 1 _law_most*, 2 _law_k, 3 _law_many, 4 _law_kids
abbrev s__law_near : Stmt := topS 20
theorem sc__law_near : FnScope ["_law_flow_here", "_law_text_here", "_law_at", "_law_sign_here", "_law_ways"] ["_law_flow_here", "_law_text_here"] (defScope s__law_near) := ⟨rfl, rfl, rfl, by decide +kernel, rfl, by decide +kernel, by decide +kernel⟩
-- _law_near: 0 _law_flow_here, 1 _law_text_here, 2 _law_at, 3 _law_sign_here, 4 _law_ways
abbrev s__law_put_together : Stmt := topS 21
theorem sc__law_put_together : FnScope ["_law_flow_here", "_law_text_here", "_law_k"] ["_law_flow_here"] (defScope s__law_put_together) := ⟨rfl, rfl, rfl, by decide +kernel, rfl, by decide +kernel, by decide +kernel⟩
-- _law_put_together: 0 _law_flow_here, 1 _law_text_here, 2 _law_k
abbrev s__law_full : Stmt := topS 22
theorem sc__law_full : FnScope ["_law_flow_here", "_law_long"] ["_law_flow_here", "_law_long"] (defScope s__law_full) := ⟨rfl, rfl, rfl, by decide +kernel, rfl, by decide +kernel, by decide +kernel⟩
-- _law_full: 0 _law_flow_here, 1 _law_long
abbrev s__law_rooms_right : Stmt := topS 23
theorem sc__law_rooms_right : FnScope ["_law_flow_here", "_law_wide", "_law_room", "_law_rows", "_law_k", "_law_long", "_law_marks", "_law_leaf", "_law_inner"] ["_law_flow_here"] (defScope s__law_rooms_right) := ⟨rfl, rfl, rfl, by decide +kernel, rfl, by decide +kernel, by decide +kernel⟩
-- _law_rooms_right: 0 _law_flow_here*, 1 _law_wide, 2 _law_room*, 3 _law_rows, 4 _law_k, 5 _law_long, 6 _law_marks, 7 _law_leaf, 8 _law_inner
abbrev s_law : Stmt := topS 24
theorem sc_law : FnScope ["_law_script", "_law_flow_here", "_law_turn", "_law_one", "_law_text_here", "_law_near_here", "_law_other"] ["_law_script"] (defScope s_law) := ⟨rfl, rfl, rfl, by decide +kernel, rfl, by decide +kernel, by decide +kernel⟩
-- law: 0 _law_script, 1 _law_flow_here, 2 _law_turn, 3 _law_one, 4 _law_text_here, 5 _law_near_here, 6 _law_other
/-! ### the facts -/
def g_kb_entry_room_0 : List Value → List Value → List Value
  | [], [y0] => [y0]
  | _, _ => []
def gV_kb_entry_room_0 : List V → List V → List V
  | [], [y0] => [y0]
  | _, _ => []
def g_kb_node_text_0 : List Value → List Value → List Value
  | [], [y0] => [y0]
  | _, _ => []
def gV_kb_node_text_0 : List V → List V → List V
  | [], [y0] => [y0]
  | _, _ => []
def g_kb_node_told_0 : List Value → List Value → List Value
  | [], [y0] => [y0]
  | _, _ => []
def gV_kb_node_told_0 : List V → List V → List V
  | [], [y0] => [y0]
  | _, _ => []
structure Fx (K : PySem.W.Frag) (mg : Str → Option Value) where
  a_is_text : Addr
  fd_is_text : FuncData
  F_is_text : Fun K "is_text" "is_text" s_is_text a_is_text fd_is_text
  g_is_text : mg "is_text" = some (.ref a_is_text)
  b_is_text : Binds K fd_is_text ["value"] []
  a_number_at : Addr
  fd_number_at : FuncData
  F_number_at : Fun K "number_at" "number_at" s_number_at a_number_at fd_number_at
  g_number_at : mg "number_at" = some (.ref a_number_at)
  b_number_at : Binds K fd_number_at ["text", "at", "size"] []
  a_entry_room : Addr
  fd_entry_room : FuncData
  F_entry_room : Fun K "entry_room" "entry_room" s_entry_room a_entry_room fd_entry_room
  g_entry_room : mg "entry_room" = some (.ref a_entry_room)
  b_entry_room : Binds K fd_entry_room ["signs"] []
  a_node_text : Addr
  fd_node_text : FuncData
  F_node_text : Fun K "node_text" "node_text" s_node_text a_node_text fd_node_text
  g_node_text : mg "node_text" = some (.ref a_node_text)
  b_node_text : Binds K fd_node_text ["node"] []
  a_node_told : Addr
  fd_node_told : FuncData
  F_node_told : Fun K "node_told" "node_told" s_node_told a_node_told fd_node_told
  g_node_told : mg "node_told" = some (.ref a_node_told)
  b_node_told : Binds K fd_node_told ["text"] []
  a_leaf_told : Addr
  fd_leaf_told : FuncData
  F_leaf_told : Fun K "leaf_told" "leaf_told" s_leaf_told a_leaf_told fd_leaf_told
  g_leaf_told : mg "leaf_told" = some (.ref a_leaf_told)
  b_leaf_told : Binds K fd_leaf_told ["text"] []
  a_inner_told : Addr
  fd_inner_told : FuncData
  F_inner_told : Fun K "inner_told" "inner_told" s_inner_told a_inner_told fd_inner_told
  g_inner_told : mg "inner_told" = some (.ref a_inner_told)
  b_inner_told : Binds K fd_inner_told ["text"] []
  a__law_flow : Addr
  fd__law_flow : FuncData
  F__law_flow : Fun K "_law_flow" "_law_flow" s__law_flow a__law_flow fd__law_flow
  g__law_flow : mg "_law_flow" = some (.ref a__law_flow)
  b__law_flow : Binds K fd__law_flow ["_law_script"] []
  a__law_draw : Addr
  fd__law_draw : FuncData
  F__law_draw : Fun K "_law_draw" "_law_draw" s__law_draw a__law_draw fd__law_draw
  g__law_draw : mg "_law_draw" = some (.ref a__law_draw)
  b__law_draw : Binds K fd__law_draw ["_law_flow_here", "_law_many"] []
  a__law_sign : Addr
  fd__law_sign : FuncData
  F__law_sign : Fun K "_law_sign" "_law_sign" s__law_sign a__law_sign fd__law_sign
  g__law_sign : mg "_law_sign" = some (.ref a__law_sign)
  b__law_sign : Binds K fd__law_sign ["_law_flow_here"] []
  a__law_text : Addr
  fd__law_text : FuncData
  F__law_text : Fun K "_law_text" "_law_text" s__law_text a__law_text fd__law_text
  g__law_text : mg "_law_text" = some (.ref a__law_text)
  b__law_text : Binds K fd__law_text ["_law_flow_here", "_law_most"] []
  a__law_same : Addr
  fd__law_same : FuncData
  F__law_same : Fun K "_law_same" "_law_same" s__law_same a__law_same fd__law_same
  g__law_same : mg "_law_same" = some (.ref a__law_same)
  b__law_same : Binds K fd__law_same ["_law_found", "_law_due"] []
  a__law_part : Addr
  fd__law_part : FuncData
  F__law_part : Fun K "_law_part" "_law_part" s__law_part a__law_part fd__law_part
  g__law_part : mg "_law_part" = some (.ref a__law_part)
  b__law_part : Binds K fd__law_part ["_law_text_here", "_law_at", "_law_many"] []
  a__law_node_text : Addr
  fd__law_node_text : FuncData
  F__law_node_text : Fun K "_law_node_text" "_law_node_text" s__law_node_text a__law_node_text fd__law_node_text
  g__law_node_text : mg "_law_node_text" = some (.ref a__law_node_text)
  b__law_node_text : Binds K fd__law_node_text ["_law_node_here"] []
  a__law_leaf_told : Addr
  fd__law_leaf_told : FuncData
  F__law_leaf_told : Fun K "_law_leaf_told" "_law_leaf_told" s__law_leaf_told a__law_leaf_told fd__law_leaf_told
  g__law_leaf_told : mg "_law_leaf_told" = some (.ref a__law_leaf_told)
  b__law_leaf_told : Binds K fd__law_leaf_told ["_law_text_here"] []
  a__law_node_told : Addr
  fd__law_node_told : FuncData
  F__law_node_told : Fun K "_law_node_told" "_law_node_told" s__law_node_told a__law_node_told fd__law_node_told
  g__law_node_told : mg "_law_node_told" = some (.ref a__law_node_told)
  b__law_node_told : Binds K fd__law_node_told ["_law_text_here"] []
  a__law_node : Addr
  fd__law_node : FuncData
  F__law_node : Fun K "_law_node" "_law_node" s__law_node a__law_node fd__law_node
  g__law_node : mg "_law_node" = some (.ref a__law_node)
  b__law_node : Binds K fd__law_node ["_law_flow_here"] []
  a__law_near : Addr
  fd__law_near : FuncData
  F__law_near : Fun K "_law_near" "_law_near" s__law_near a__law_near fd__law_near
  g__law_near : mg "_law_near" = some (.ref a__law_near)
  b__law_near : Binds K fd__law_near ["_law_flow_here", "_law_text_here"] []
  a__law_put_together : Addr
  fd__law_put_together : FuncData
  F__law_put_together : Fun K "_law_put_together" "_law_put_together" s__law_put_together a__law_put_together fd__law_put_together
  g__law_put_together : mg "_law_put_together" = some (.ref a__law_put_together)
  b__law_put_together : Binds K fd__law_put_together ["_law_flow_here"] []
  a__law_full : Addr
  fd__law_full : FuncData
  F__law_full : Fun K "_law_full" "_law_full" s__law_full a__law_full fd__law_full
  g__law_full : mg "_law_full" = some (.ref a__law_full)
  b__law_full : Binds K fd__law_full ["_law_flow_here", "_law_long"] []
  a__law_rooms_right : Addr
  fd__law_rooms_right : FuncData
  F__law_rooms_right : Fun K "_law_rooms_right" "_law_rooms_right" s__law_rooms_right a__law_rooms_right fd__law_rooms_right
  g__law_rooms_right : mg "_law_rooms_right" = some (.ref a__law_rooms_right)
  b__law_rooms_right : Binds K fd__law_rooms_right ["_law_flow_here"] []
  a_law : Addr
  fd_law : FuncData
  F_law : Fun K "law" "law" s_law a_law fd_law
  g_law : mg "law" = some (.ref a_law)
  b_law : Binds K fd_law ["_law_script"] []
  kb_entry_room_0 : KBinds K fd_entry_room ["signs"] ["signs"] g_kb_entry_room_0 gV_kb_entry_room_0
  kb_node_text_0 : KBinds K fd_node_text ["node"] ["node"] g_kb_node_text_0 gV_kb_node_text_0
  kb_node_told_0 : KBinds K fd_node_told ["text"] ["text"] g_kb_node_told_0 gV_kb_node_told_0
  m_abs : mg "abs" = none
  m_bool : mg "bool" = none
  m_int : mg "int" = none
  m_isinstance : mg "isinstance" = none
  m_len : mg "len" = none
  m_list : mg "list" = none
  m_max : mg "max" = none
  m_min : mg "min" = none
  m_range : mg "range" = none
  m_str : mg "str" = none
  m_tuple : mg "tuple" = none
  m_type : mg "type" = none

/-! ### the bodies -/
section
variable {P : Program} {w : World} {K : PySem.W.Frag} {mg : Str → Option Value} {base : Heap}
def t_is_text (K : PySem.W.Frag)  : TS :=
    (tRet (tAndV (tOp (rIS K) (tCB (rTyp K) (tCons (tVar 0) tNil)) (tC (.ty "str"))) (tAndV (tBM0 K "str" rM_isascii (tVar 0)) (tBM0 K "str" rM_isprintable (tVar 0)))))
theorem b_is_text (Y : Fx K mg)   {f : Addr} {cdv : Value} {A : Around} {outer : List Env} {s : Shared} {H : Hp} {E : XK} (hr : Room 0 (A.deeper (envOfC "is_text" (defScope s_is_text) s.heap.objs.size f cdv))) :
    PSs (cxOf CX0 P w K mg base ["value"] "is_text" (defScope s_is_text) f cdv A outer s H E).nox (defBody s_is_text) (t_is_text K ) :=
    (pss_one (ps_ret (pe_and (pe_cmpR op_IS (pe_callTy call_type1 (by rfl) Y.m_type (by decide +kernel) (pa_cons (pv 0) pa_nil)) (pe_bltn (v := .ty "str") (by rfl) Y.m_str (by decide +kernel) rfl) (nomark _)) (pe_and (pe_bm0 PySem.F.plainAttrs_str PySem.F.slot_str_isascii PySem.F.type_str_isascii mt_isascii (pv 0)) (pe_one (pe_bm0 PySem.F.plainAttrs_str PySem.F.slot_str_isprintable PySem.F.type_str_isprintable mt_isprintable (pv 0)))))))
def t_number_at (K : PySem.W.Frag)  : TS :=
    (tSeq (tAsg (tSl (rSL K) (tVar 0) (tPart (tVar 1)) (tPart (tOp (rADD K) (tVar 1) (tVar 2)))) (gName 3))
    (tSeq (tIfS (tAnd (tTest (tOp (rEQ K) (tCB (rLEN K) (tCons (tVar 3) tNil)) (tVar 2))) (tTru1 K (tBM0 K "str" rM_isdigit (tVar 3)))) (tRet (tCB rINT (tCons (tVar 3) tNil))) tNext)
    (tRet (tC .non))))
theorem b_number_at (Y : Fx K mg)   {f : Addr} {cdv : Value} {A : Around} {outer : List Env} {s : Shared} {H : Hp} {E : XK} (hr : Room 0 (A.deeper (envOfC "number_at" (defScope s_number_at) s.heap.objs.size f cdv))) :
    PSs (cxOf CX0 P w K mg base ["text", "at", "size", "word"] "number_at" (defScope s_number_at) f cdv A outer s H E).nox (defBody s_number_at) (t_number_at K ) :=
    (pss_cons (ps_set (i := 3) sc_number_at.nd rfl (Or.inl rfl) (pe_slice sl_SEQ (pv 0) (po_some (pv 1)) (po_some (pe_op op_ADD (pv 1) (pv 2)))))
    (pss_cons (ps_if (PW.pt (pw_and (pt_cmpR (op_EQ (hu_64 hr)) (pe_callB call_LEN (by rfl) Y.m_len (by decide +kernel) (pa_cons (pv 3) pa_nil)) (pv 2) (nomark _)) (pw_and1 (pt_tru (pe_bm0 PySem.F.plainAttrs_str PySem.F.slot_str_isdigit PySem.F.type_str_isdigit mt_isdigit (pv 3)) (by intro _; rfl))))) (pss_one (ps_ret (pe_callTy call_INT (by rfl) Y.m_int (by decide +kernel) (pa_cons (pv 3) pa_nil)))) pss_nil)
    (pss_one (ps_ret pe_non))))
def t_entry_room (K : PySem.W.Frag)  : TS :=
    (tRet (tOp rSUB (tOp rFDIV (tOp rSUB (tVar 0) (tC (.int 1))) (tC (.int 4))) (tC (.int 6))))
theorem b_entry_room (Y : Fx K mg)   {f : Addr} {cdv : Value} {A : Around} {outer : List Env} {s : Shared} {H : Hp} {E : XK} (hr : Room 0 (A.deeper (envOfC "entry_room" (defScope s_entry_room) s.heap.objs.size f cdv))) :
    PSs (cxOf CX0 P w K mg base ["signs"] "entry_room" (defScope s_entry_room) f cdv A outer s H E).nox (defBody s_entry_room) (t_entry_room K ) :=
    (pss_one (ps_ret (pe_op op_SUB (pe_op op_FDIV (pe_op op_SUB (pv 0) pe_int) pe_int) pe_int)))
def t_node_text (K : PySem.W.Frag)  : TS :=
    (tSeq (tIfS (tTest (tOp (rEQ K) (tOp (rIX K) (tVar 0) (tC (.int 0))) (tC (.str "leaf")))) (tRet (tOp (rADD K) (tC (.str "L")) (tBM K "str" (rJoin K) (tC (.str "")) (tCons (tLc (iTup K (tOp (rIX K) (tVar 0) (tC (.int 1)))) (gTup K 2 (gCons (gName 1) (gCons (gName 2) gNil))) tYes (fun σ H Q => tJs [(tFmt0 3 (tCB (rLEN K) (tCons (tVar 1) tNil))), (tFmt0 3 (tCB (rLEN K) (tCons (tVar 2) tNil))), (tFmt (tVar 1)), (tFmt (tVar 2))] Str.empty σ H fun out H1 => Q (.str out) H1) [1, 2]) tNil)))) tNext)
    (tSeq (tPar 3 4 (tCons (tOp (rIX K) (tVar 0) (tC (.int 1))) (tCons (tOp (rIX K) (tVar 0) (tC (.int 2))) tNil)))
    (tSeq (tAsg (tBM K "str" (rJoin K) (tC (.str "")) (tCons (tLc (iTup K (tVar 4)) (gName 6) tYes (tFmt0 4 (tVar 6)) [6]) tNil)) (gName 5))
    (tRet (tOp (rADD K) (tOp (rADD K) (tOp (rADD K) (tC (.str "I")) (tCB rSTR (tCons (tCB (rLEN K) (tCons (tVar 4) tNil)) tNil))) (tVar 5)) (tBM K "str" (rJoin K) (tC (.str "")) (tCons (tLc (iTup K (tVar 3)) (gName 7) tYes (fun σ H Q => tJs [(tFmt0 3 (tCB (rLEN K) (tCons (tVar 7) tNil))), (tFmt (tVar 7))] Str.empty σ H fun out H1 => Q (.str out) H1) [7]) tNil)))))))
theorem b_node_text (Y : Fx K mg)   {f : Addr} {cdv : Value} {A : Around} {outer : List Env} {s : Shared} {H : Hp} {E : XK} (hr : Room 0 (A.deeper (envOfC "node_text" (defScope s_node_text) s.heap.objs.size f cdv))) :
    PSs (cxOf CX0 P w K mg base ["node", "key", "value", "marks", "kids", "pages", "kid", "mark"] "node_text" (defScope s_node_text) f cdv A outer s H E).nox (defBody s_node_text) (t_node_text K ) :=
    (pss_cons (ps_if (pt_cmpR (op_EQ (hu_64 hr)) (pe_ix ix_SEQ (pv 0) pe_int (fun _ _ => rfl)) pe_str (nomark _)) (pss_one (ps_ret (pe_op op_ADD pe_str (pe_bm PySem.F.plainAttrs_str PySem.F.slot_str_join PySem.F.type_str_join mt_join pe_str (pa_cons (pe_lc (own := [("key", 1), ("value", 2)]) (by rfl) sc_node_text.nd (pi_tup (pe_ix ix_SEQ (pv 0) pe_int (fun _ _ => rfl))) (blkOk_by (own := [("key", 1), ("value", 2)]) (N := ["node", "key", "value", "marks", "kids", "pages", "kid", "mark"]) (sc := defScope s_node_text) (by decide +kernel)) (fun _ _ _ _ _ => (pg_tup rfl (pgs_cons (pg_name (i := 1) sc_node_text.nd rfl (Or.inl rfl)) (pgs_cons (pg_name (i := 2) sc_node_text.nd rfl (Or.inl rfl)) pgs_nil)))) (fun _ _ _ _ _ => pts_nil) (fun _ _ _ _ _ => (pe_joined (PJ.cons (pe_fmt0 3 (pe_callB call_LEN (by rfl) Y.m_len (by decide +kernel) (pa_cons (pv 1) pa_nil))) (PJ.cons (pe_fmt0 3 (pe_callB call_LEN (by rfl) Y.m_len (by decide +kernel) (pa_cons (pv 2) pa_nil))) (PJ.cons (pe_fmt (pv 1)) (PJ.cons (pe_fmt (pv 2)) PJ.nil))))))) pa_nil))))) pss_nil)
    (pss_cons (ps_par (i := 3) (j := 4) (by rfl) sc_node_text.nd rfl rfl (by decide) rfl rfl (pa_cons (pe_ix ix_SEQ (pv 0) pe_int (fun _ _ => rfl)) (pa_cons (pe_ix ix_SEQ (pv 0) pe_int (fun _ _ => rfl)) pa_nil)) (by rfl))
    (pss_cons (ps_set (i := 5) sc_node_text.nd rfl (Or.inl rfl) (pe_bm PySem.F.plainAttrs_str PySem.F.slot_str_join PySem.F.type_str_join mt_join pe_str (pa_cons (pe_lc (own := [("kid", 6)]) (by rfl) sc_node_text.nd (pi_tup (pv 4)) (blkOk_by (own := [("kid", 6)]) (N := ["node", "key", "value", "marks", "kids", "pages", "kid", "mark"]) (sc := defScope s_node_text) (by decide +kernel)) (fun _ _ _ _ _ => (pg_name (i := 6) sc_node_text.nd rfl (Or.inl rfl))) (fun _ _ _ _ _ => pts_nil) (fun _ _ _ _ _ => (pe_joined1 (pe_fmt0 4 (pv 6))))) pa_nil)))
    (pss_one (ps_ret (pe_op op_ADD (pe_op op_ADD (pe_op op_ADD pe_str (pe_callTy call_STR (by rfl) Y.m_str (by decide +kernel) (pa_cons (pe_callB call_LEN (by rfl) Y.m_len (by decide +kernel) (pa_cons (pv 4) pa_nil)) pa_nil))) (pv 5)) (pe_bm PySem.F.plainAttrs_str PySem.F.slot_str_join PySem.F.type_str_join mt_join pe_str (pa_cons (pe_lc (own := [("mark", 7)]) (by rfl) sc_node_text.nd (pi_tup (pv 3)) (blkOk_by (own := [("mark", 7)]) (N := ["node", "key", "value", "marks", "kids", "pages", "kid", "mark"]) (sc := defScope s_node_text) (by decide +kernel)) (fun _ _ _ _ _ => (pg_name (i := 7) sc_node_text.nd rfl (Or.inl rfl))) (fun _ _ _ _ _ => pts_nil) (fun _ _ _ _ _ => (pe_joined (PJ.cons (pe_fmt0 3 (pe_callB call_LEN (by rfl) Y.m_len (by decide +kernel) (pa_cons (pv 7) pa_nil))) (PJ.cons (pe_fmt (pv 7)) PJ.nil))))) pa_nil))))))))
def t_node_told (K : PySem.W.Frag) (sp_inner_told : PySem.W.Frag → Sp) (sp_is_text : PySem.W.Frag → Sp) (sp_leaf_told : PySem.W.Frag → Sp) : TS :=
    (tSeq (tIfS (tNot (tTru1 K (tCall (sp_is_text K) [] E0 (tCons (tVar 0) tNil)))) (tRet (tC .non)) tNext)
    (tSeq (tIfS (tTest (tOp (rEQ K) (tSl (rSL K) (tVar 0) tNoPart (tPart (tC (.int 1)))) (tC (.str "L")))) (tRet (tCall (sp_leaf_told K) [] E0 (tCons (tVar 0) tNil))) tNext)
    (tSeq (tIfS (tTest (tOp (rEQ K) (tSl (rSL K) (tVar 0) tNoPart (tPart (tC (.int 1)))) (tC (.str "I")))) (tRet (tCall (sp_inner_told K) [] E0 (tCons (tVar 0) tNil))) tNext)
    (tRet (tC .non)))))
theorem b_node_told (Y : Fx K mg) {sp_inner_told : PySem.W.Frag → Sp} {sp_is_text : PySem.W.Frag → Sp} {sp_leaf_told : PySem.W.Frag → Sp} (G_inner_told : FnOk P w K mg base CX0 2 Y.a_inner_told Y.fd_inner_told ["text"] (sp_inner_told K)) (G_is_text : FnOk P w K mg base CX0 1 Y.a_is_text Y.fd_is_text ["value"] (sp_is_text K)) (G_leaf_told : FnOk P w K mg base CX0 2 Y.a_leaf_told Y.fd_leaf_told ["text"] (sp_leaf_told K)) {f : Addr} {cdv : Value} {A : Around} {outer : List Env} {s : Shared} {H : Hp} {E : XK} (hr : Room 2 (A.deeper (envOfC "node_told" (defScope s_node_told) s.heap.objs.size f cdv))) :
    PSs (cxOf CX0 P w K mg base ["text"] "node_told" (defScope s_node_told) f cdv A outer s H E).nox (defBody s_node_told) (t_node_told K sp_inner_told sp_is_text sp_leaf_told) :=
    (pss_cons (ps_if (pt_not (pt_tru (pe_call G_is_text (hr.mono (by decide)) (by rfl) Y.g_is_text Y.F_is_text.kp Y.b_is_text .nil pass0 (pa_cons (pv 0) pa_nil)) (by intro _; rfl))) (pss_one (ps_ret pe_non)) pss_nil)
    (pss_cons (ps_if (pt_cmpR (op_EQ (hu_64 hr)) (pe_slice sl_SEQ (pv 0) po_none (po_some pe_int)) pe_str (nomark _)) (pss_one (ps_ret (pe_call G_leaf_told (hr.mono (by decide)) (by rfl) Y.g_leaf_told Y.F_leaf_told.kp Y.b_leaf_told .nil pass0 (pa_cons (pv 0) pa_nil)))) pss_nil)
    (pss_cons (ps_if (pt_cmpR (op_EQ (hu_64 hr)) (pe_slice sl_SEQ (pv 0) po_none (po_some pe_int)) pe_str (nomark _)) (pss_one (ps_ret (pe_call G_inner_told (hr.mono (by decide)) (by rfl) Y.g_inner_told Y.F_inner_told.kp Y.b_inner_told .nil pass0 (pa_cons (pv 0) pa_nil)))) pss_nil)
    (pss_one (ps_ret pe_non)))))
def t_leaf_told (K : PySem.W.Frag) (sp_number_at : PySem.W.Frag → Sp) : TS :=
    (tSeq (tAsg (tLst tNil) (gName 1))
    (tSeq (tAsg (tC (.int 1)) (gName 2))
    (tSeq (tWhile (tTest (tOp rLT (tVar 2) (tCB (rLEN K) (tCons (tVar 0) tNil)))) (tSeq (tPar 5 6 (tCons (tCall (sp_number_at K) [] E0 (tCons (tVar 0) (tCons (tVar 2) (tCons (tC (.int 3)) tNil)))) (tCons (tCall (sp_number_at K) [] E0 (tCons (tVar 0) (tCons (tOp (rADD K) (tVar 2) (tC (.int 3))) (tCons (tC (.int 3)) tNil)))) tNil)))
      (tSeq (tIfS (tOr (tTest (tOp (rIS K) (tVar 5) (tC .non))) (tTest (tOp (rIS K) (tVar 6) (tC .non)))) (tRet (tC .non)) tNext)
      (tSeq (tAsg (tOp (rADD K) (tVar 2) (tC (.int 6))) (gName 3))
      (tSeq (tAsg (tOp (rADD K) (tVar 3) (tVar 5)) (gName 4))
      (tSeq (tAsg (tOp (rADD K) (tVar 4) (tVar 6)) (gName 2))
      (tSeq (tIfS (tTest (tOp rGT (tVar 2) (tCB (rLEN K) (tCons (tVar 0) tNil)))) (tRet (tC .non)) tNext)
      (tDrop (tBM K "list" rAppend (tVar 1) (tCons (tTup (tCons (tSl (rSL K) (tVar 0) (tPart (tVar 3)) (tPart (tVar 4))) (tCons (tSl (rSL K) (tVar 0) (tPart (tVar 4)) (tPart (tVar 2))) tNil))) tNil))))))))))
    (tRet (tTup (tCons (tC (.str "leaf")) (tCons (tCB (rTUPLE K) (tCons (tVar 1) tNil)) tNil)))))))
theorem b_leaf_told (Y : Fx K mg) {sp_number_at : PySem.W.Frag → Sp} (G_number_at : FnOk P w K mg base CX0 1 Y.a_number_at Y.fd_number_at ["text", "at", "size"] (sp_number_at K)) {f : Addr} {cdv : Value} {A : Around} {outer : List Env} {s : Shared} {H : Hp} {E : XK} (hr : Room 1 (A.deeper (envOfC "leaf_told" (defScope s_leaf_told) s.heap.objs.size f cdv))) :
    PSs (cxOf CX0 P w K mg base ["text", "entries", "at", "start", "middle", "key_size", "value_size"] "leaf_told" (defScope s_leaf_told) f cdv A outer s H E).nox (defBody s_leaf_told) (t_leaf_told K sp_number_at) :=
    (pss_cons (ps_set (i := 1) sc_leaf_told.nd rfl (Or.inl rfl) (pe_lst pa_nil))
    (pss_cons (ps_set (i := 2) sc_leaf_told.nd rfl (Or.inl rfl) pe_int)
    (pss_cons (ps_while PassesOwn.never (pt_cmpR op_LT (pv 2) (pe_callB call_LEN (by rfl) Y.m_len (by decide +kernel) (pa_cons (pv 0) pa_nil)) (nomark _)) (pss_cons (ps_par (i := 5) (j := 6) (by rfl) sc_leaf_told.nd rfl rfl (by decide) rfl rfl (pa_cons (pe_call G_number_at (hr.mono (by decide)) (by rfl) Y.g_number_at Y.F_number_at.kp Y.b_number_at .nil pass0 (pa_cons (pv 0) (pa_cons (pv 2) (pa_cons pe_int pa_nil)))) (pa_cons (pe_call G_number_at (hr.mono (by decide)) (by rfl) Y.g_number_at Y.F_number_at.kp Y.b_number_at .nil pass0 (pa_cons (pv 0) (pa_cons (pe_op op_ADD (pv 2) pe_int) (pa_cons pe_int pa_nil)))) pa_nil)) (by rfl))
      (pss_cons (ps_if (PW.pt (pw_or (pt_cmpR op_IS (pv 5) pe_non (nomark _)) (pw_or1 (pt_cmpR op_IS (pv 6) pe_non (nomark _))))) (pss_one (ps_ret pe_non)) pss_nil)
      (pss_cons (ps_set (i := 3) sc_leaf_told.nd rfl (Or.inl rfl) (pe_op op_ADD (pv 2) pe_int))
      (pss_cons (ps_set (i := 4) sc_leaf_told.nd rfl (Or.inl rfl) (pe_op op_ADD (pv 3) (pv 5)))
      (pss_cons (ps_set (i := 2) sc_leaf_told.nd rfl (Or.inl rfl) (pe_op op_ADD (pv 4) (pv 6)))
      (pss_cons (ps_if (pt_cmpR op_GT (pv 2) (pe_callB call_LEN (by rfl) Y.m_len (by decide +kernel) (pa_cons (pv 0) pa_nil)) (nomark _)) (pss_one (ps_ret pe_non)) pss_nil)
      (pss_one (ps_expr (pe_bm PySem.F.plainAttrs_list PySem.F.slot_list_append PySem.F.type_list_append mt_append (pv 1) (pa_cons (pe_tup (pa_cons (pe_slice sl_SEQ (pv 0) (po_some (pv 3)) (po_some (pv 4))) (pa_cons (pe_slice sl_SEQ (pv 0) (po_some (pv 4)) (po_some (pv 2))) pa_nil))) pa_nil)))))))))))
    (pss_one (ps_ret (pe_tup (pa_cons pe_str (pa_cons (pe_callTy call_TUPLE (by rfl) Y.m_tuple (by decide +kernel) (pa_cons (pv 1) pa_nil)) pa_nil))))))))
def t_inner_told (K : PySem.W.Frag) (sp_number_at : PySem.W.Frag → Sp) : TS :=
    (tSeq (tAsg (tCall (sp_number_at K) [] E0 (tCons (tVar 0) (tCons (tC (.int 1)) (tCons (tC (.int 1)) tNil)))) (gName 1))
    (tSeq (tIfS (tOr (tTest (tOp (rIS K) (tVar 1) (tC .non))) (tTest (tOp (rEQ K) (tVar 1) (tC (.int 0))))) (tRet (tC .non)) tNext)
    (tSeq (tAsg (tLc (iRng1 (tCons (tVar 1) tNil)) (gName 3) tYes (tCall (sp_number_at K) [] E0 (tCons (tVar 0) (tCons (tOp (rADD K) (tC (.int 2)) (tOp (rMUL K) (tC (.int 4)) (tVar 3))) (tCons (tC (.int 4)) tNil)))) [3]) (gName 2))
    (tSeq (tAsg (tOp (rADD K) (tC (.int 2)) (tOp (rMUL K) (tC (.int 4)) (tVar 1))) (gName 4))
    (tSeq (tAsg (tLst tNil) (gName 5))
    (tSeq (tFor (iRng1 (tCons (tOp rSUB (tVar 1) (tC (.int 1))) tNil)) (gName 6) (tSeq (tAsg (tCall (sp_number_at K) [] E0 (tCons (tVar 0) (tCons (tVar 4) (tCons (tC (.int 3)) tNil)))) (gName 7))
      (tSeq (tIfS (tTest (tOp (rIS K) (tVar 7) (tC .non))) (tRet (tC .non)) tNext)
      (tSeq (tAsg (tOp (rADD K) (tVar 4) (tC (.int 3))) (gName 8))
      (tSeq (tAsg (tOp (rADD K) (tVar 8) (tVar 7)) (gName 4))
      (tDrop (tBM K "list" rAppend (tVar 5) (tCons (tSl (rSL K) (tVar 0) (tPart (tVar 8)) (tPart (tVar 4))) tNil))))))))
    (tSeq (tIfS (tOr (tTest (tOp (rINU K) (tC .non) (tVar 2))) (tTest (tOp (rNE K) (tVar 4) (tCB (rLEN K) (tCons (tVar 0) tNil))))) (tRet (tC .non)) tNext)
    (tRet (tTup (tCons (tC (.str "inner")) (tCons (tCB (rTUPLE K) (tCons (tVar 5) tNil)) (tCons (tCB (rTUPLE K) (tCons (tVar 2) tNil)) tNil))))))))))))
theorem b_inner_told (Y : Fx K mg) {sp_number_at : PySem.W.Frag → Sp} (G_number_at : FnOk P w K mg base CX0 1 Y.a_number_at Y.fd_number_at ["text", "at", "size"] (sp_number_at K)) {f : Addr} {cdv : Value} {A : Around} {outer : List Env} {s : Shared} {H : Hp} {E : XK} (hr : Room 1 (A.deeper (envOfC "inner_told" (defScope s_inner_told) s.heap.objs.size f cdv))) :
    PSs (cxOf CX0 P w K mg base ["text", "many", "kids", "place", "at", "marks", "_", "size", "start"] "inner_told" (defScope s_inner_told) f cdv A outer s H E).nox (defBody s_inner_told) (t_inner_told K sp_number_at) :=
    (pss_cons (ps_set (i := 1) sc_inner_told.nd rfl (Or.inl rfl) (pe_call G_number_at (hr.mono (by decide)) (by rfl) Y.g_number_at Y.F_number_at.kp Y.b_number_at .nil pass0 (pa_cons (pv 0) (pa_cons pe_int (pa_cons pe_int pa_nil)))))
    (pss_cons (ps_if (PW.pt (pw_or (pt_cmpR op_IS (pv 1) pe_non (nomark _)) (pw_or1 (pt_cmpR (op_EQ (hu_64 hr)) (pv 1) pe_int (nomark _))))) (pss_one (ps_ret pe_non)) pss_nil)
    (pss_cons (ps_setLc (i := 2) (own := [("place", 3)]) (by rfl) sc_inner_told.nd rfl rfl (sw_true rfl rfl rfl (by decide +kernel)) (pi_range1 (by rfl) Y.m_range (pa_cons (pv 1) pa_nil)) (blkOk_by (own := [("place", 3)]) (N := ["text", "many", "kids", "place", "at", "marks", "_", "size", "start"]) (sc := defScope s_inner_told) (by decide +kernel)) (fun _ _ _ _ _ => (pg_name (i := 3) sc_inner_told.nd rfl (Or.inl rfl))) (fun _ _ _ _ _ => pts_nil) (fun _ _ _ _ _ => (pe_call G_number_at (hr.mono (by decide)) (by rfl) Y.g_number_at Y.F_number_at.kp Y.b_number_at .nil pass0 (pa_cons (pv 0) (pa_cons (pe_op op_ADD pe_int (pe_op op_MUL pe_int (pv 3))) (pa_cons pe_int pa_nil))))))
    (pss_cons (ps_set (i := 4) sc_inner_told.nd rfl (Or.inl rfl) (pe_op op_ADD pe_int (pe_op op_MUL pe_int (pv 1))))
    (pss_cons (ps_set (i := 5) sc_inner_told.nd rfl (Or.inl rfl) (pe_lst pa_nil))
    (pss_cons (ps_for PassesOwn.never rfl (pi_range1 (by rfl) Y.m_range (pa_cons (pe_op op_SUB (pv 1) pe_int) pa_nil)) (pg_name (i := 6) sc_inner_told.nd rfl (Or.inl rfl)) (pss_cons (ps_set (i := 7) sc_inner_told.nd rfl (Or.inl rfl) (pe_call G_number_at (hr.mono (by decide)) (by rfl) Y.g_number_at Y.F_number_at.kp Y.b_number_at .nil pass0 (pa_cons (pv 0) (pa_cons (pv 4) (pa_cons pe_int pa_nil)))))
      (pss_cons (ps_if (pt_cmpR op_IS (pv 7) pe_non (nomark _)) (pss_one (ps_ret pe_non)) pss_nil)
      (pss_cons (ps_set (i := 8) sc_inner_told.nd rfl (Or.inl rfl) (pe_op op_ADD (pv 4) pe_int))
      (pss_cons (ps_set (i := 4) sc_inner_told.nd rfl (Or.inl rfl) (pe_op op_ADD (pv 8) (pv 7)))
      (pss_one (ps_expr (pe_bm PySem.F.plainAttrs_list PySem.F.slot_list_append PySem.F.type_list_append mt_append (pv 5) (pa_cons (pe_slice sl_SEQ (pv 0) (po_some (pv 8)) (po_some (pv 4))) pa_nil)))))))))
    (pss_cons (ps_if (PW.pt (pw_or (pt_cmpR op_IN pe_non (pv 2) (by with_unfolding_all rfl)) (pw_or1 (pt_cmpR (op_NE (hu_64 hr)) (pv 4) (pe_callB call_LEN (by rfl) Y.m_len (by decide +kernel) (pa_cons (pv 0) pa_nil)) (nomark _))))) (pss_one (ps_ret pe_non)) pss_nil)
    (pss_one (ps_ret (pe_tup (pa_cons pe_str (pa_cons (pe_callTy call_TUPLE (by rfl) Y.m_tuple (by decide +kernel) (pa_cons (pv 5) pa_nil)) (pa_cons (pe_callTy call_TUPLE (by rfl) Y.m_tuple (by decide +kernel) (pa_cons (pv 2) pa_nil)) pa_nil)))))))))))))
def t__law_flow (K : PySem.W.Frag)  : TS :=
    (tRet (tLst (tCons (tCB (rLIST K) (tCons (tVar 0) tNil)) (tCons (tC (.int 0)) (tCons (tC (.int 11)) (tCons (tC (.int 0)) tNil))))))
theorem b__law_flow (Y : Fx K mg)   {f : Addr} {cdv : Value} {A : Around} {outer : List Env} {s : Shared} {H : Hp} {E : XK} (hr : Room 0 (A.deeper (envOfC "_law_flow" (defScope s__law_flow) s.heap.objs.size f cdv))) :
    PSs (cxOf CX0 P w K mg base ["_law_script"] "_law_flow" (defScope s__law_flow) f cdv A outer s H E).nox (defBody s__law_flow) (t__law_flow K ) :=
    (pss_one (ps_ret (pe_lst (pa_cons (pe_callTy call_LIST (by rfl) Y.m_list (by decide +kernel) (pa_cons (pv 0) pa_nil)) (pa_cons pe_int (pa_cons pe_int (pa_cons pe_int pa_nil)))))))
def t__law_draw (K : PySem.W.Frag)  : TS :=
    (Evl.tCut (tIfS (tAnd (tTest (tOp (rEQ K) (tOp (rIX K) (tVar 0) (tC (.int 1))) (tC (.int 0)))) (tTest (tOp (rNE K) (tOp (rIX K) (tVar 0) (tC (.int 0))) (tLst tNil)))) (tSeq (tAsg (tCB rINT (tCons (tBM K "list" rPOP (tOp (rIX K) (tVar 0) (tC (.int 0))) (tCons (tC (.int 0)) tNil)) tNil)) (gName 2))
      (tSeq (tAsg (tCB rMAX2 (tCons (tC (.int 0)) (tCons (tOp rSUB (tCB rABS (tCons (tVar 2) tNil)) (tOp rPOW (tC (.int 10)) (tC (.int 18)))) tNil))) (gSub (tVar 0) (tC (.int 1)) rSetL))
      (tAsg (tOp rMOD (tCB rINT (tCons (tOp (rADD K) (tOp (rMUL K) (tOp (rIX K) (tVar 0) (tC (.int 2))) (tC (.int 1181783497276652981))) (tVar 2)) tNil)) (tC (.int 2305843009213693951))) (gSub (tVar 0) (tC (.int 2)) rSetL)))) tNext)
    (tSeq (tIfS (tTest (tOp rGT (tOp (rIX K) (tVar 0) (tC (.int 1))) (tC (.int 0)))) (tSeq (tAsg (tOp rFDIV (tOp (rIX K) (tVar 0) (tC (.int 1))) (tVar 1)) (gName 3))
      (tSeq (tAsg (tOp rSUB (tOp (rIX K) (tVar 0) (tC (.int 1))) (tOp (rMUL K) (tVar 3) (tVar 1))) (gName 4))
      (tSeq (tAsg (tVar 3) (gSub (tVar 0) (tC (.int 1)) rSetL))
      (tRet (tVar 4))))) tNext)
    (tSeq (tAsg (tOp (rADD K) (tOp (rIX K) (tVar 0) (tC (.int 3))) (tC (.int 1))) (gSub (tVar 0) (tC (.int 3)) rSetL))
    (tSeq (tAsg (tOp (rIX K) (tVar 0) (tC (.int 3))) (gName 5))
    (tSeq (tAsg (tOp rMOD (tCB rINT (tCons (tOp (rADD K) (tOp (rADD K) (tOp (rADD K) (tOp (rIX K) (tVar 0) (tC (.int 2))) (tOp (rMUL K) (tOp (rMUL K) (tC (.int 7919)) (tVar 5)) (tVar 5))) (tOp (rMUL K) (tC (.int 15485863)) (tVar 5))) (tC (.int 3))) tNil)) (tC (.int 2305843009213693951))) (gName 6))
    (tSeq (tAsg (tOp rFDIV (tOp rMOD (tCB rINT (tCons (tOp (rADD K) (tOp (rADD K) (tOp (rMUL K) (tVar 6) (tVar 6)) (tOp (rMUL K) (tC (.int 104729)) (tVar 5))) (tC (.int 5))) tNil)) (tC (.int 2305843009213693951))) (tC (.int 1021))) (gName 6))
    (tSeq (tAsg (tOp rFDIV (tOp rMOD (tCB rINT (tCons (tOp (rADD K) (tOp (rMUL K) (tVar 6) (tVar 6)) (tOp (rMUL K) (tC (.int 611953)) (tVar 5))) tNil)) (tC (.int 2305843009213693951))) (tC (.int 4093))) (gName 6))
    (tRet (tOp rMOD (tCB rINT (tCons (tVar 6) tNil)) (tVar 1))))))))))
theorem b__law_draw (Y : Fx K mg)   {f : Addr} {cdv : Value} {A : Around} {outer : List Env} {s : Shared} {H : Hp} {E : XK} (hr : Room 0 (A.deeper (envOfC "_law_draw" (defScope s__law_draw) s.heap.objs.size f cdv))) :
    PSs (cxOf CX0 P w K mg base ["_law_flow_here", "_law_many", "_law_cell", "_law_rest", "_law_found", "_law_turn", "_law_mixed"] "_law_draw" (defScope s__law_draw) f cdv A outer s H E).nox (defBody s__law_draw) (t__law_draw K ) :=
    (Evl.pss_cut (ps_if (PW.pt (pw_and (pt_cmpR (op_EQ (hu_64 hr)) (pe_ix ix_SEQ (pv 0) pe_int (fun _ _ => rfl)) pe_int (nomark _)) (pw_and1 (pt_cmpR (op_NE (hu_64 hr)) (pe_ix ix_SEQ (pv 0) pe_int (fun _ _ => rfl)) (pe_lst pa_nil) (nomark _))))) (pss_cons (ps_set (i := 2) sc__law_draw.nd rfl (Or.inl rfl) (pe_callTy call_INT (by rfl) Y.m_int (by decide +kernel) (pa_cons (pe_bm PySem.F.plainAttrs_list PySem.F.slot_list_pop PySem.F.type_list_pop mt_POP (pe_ix ix_SEQ (pv 0) pe_int (fun _ _ => rfl)) (pa_cons pe_int pa_nil)) pa_nil)))
      (pss_cons (ps_asg (pe_callB (call_MAX2 rfl) (by rfl) Y.m_max (by decide +kernel) (pa_cons pe_int (pa_cons (pe_op op_SUB (pe_callB call_ABS (by rfl) Y.m_abs (by decide +kernel) (pa_cons (pv 2) pa_nil)) (pe_op op_POW pe_int pe_int)) pa_nil))) (pg_sub (pv 0) pe_int set_list))
      (pss_one (ps_asg (pe_op op_MOD (pe_callTy call_INT (by rfl) Y.m_int (by decide +kernel) (pa_cons (pe_op op_ADD (pe_op op_MUL (pe_ix ix_SEQ (pv 0) pe_int (fun _ _ => rfl)) pe_int) (pv 2)) pa_nil)) pe_int) (pg_sub (pv 0) pe_int set_list))))) pss_nil)
    (pss_cons (ps_if (pt_cmpR op_GT (pe_ix ix_SEQ (pv 0) pe_int (fun _ _ => rfl)) pe_int (nomark _)) (pss_cons (ps_set (i := 3) sc__law_draw.nd rfl (Or.inl rfl) (pe_op op_FDIV (pe_ix ix_SEQ (pv 0) pe_int (fun _ _ => rfl)) (pv 1)))
      (pss_cons (ps_set (i := 4) sc__law_draw.nd rfl (Or.inl rfl) (pe_op op_SUB (pe_ix ix_SEQ (pv 0) pe_int (fun _ _ => rfl)) (pe_op op_MUL (pv 3) (pv 1))))
      (pss_cons (ps_asg (pv 3) (pg_sub (pv 0) pe_int set_list))
      (pss_one (ps_ret (pv 4)))))) pss_nil)
    (pss_cons (ps_asg (pe_op op_ADD (pe_ix ix_SEQ (pv 0) pe_int (fun _ _ => rfl)) pe_int) (pg_sub (pv 0) pe_int set_list))
    (pss_cons (ps_set (i := 5) sc__law_draw.nd rfl (Or.inl rfl) (pe_ix ix_SEQ (pv 0) pe_int (fun _ _ => rfl)))
    (pss_cons (ps_set (i := 6) sc__law_draw.nd rfl (Or.inl rfl) (pe_op op_MOD (pe_callTy call_INT (by rfl) Y.m_int (by decide +kernel) (pa_cons (pe_op op_ADD (pe_op op_ADD (pe_op op_ADD (pe_ix ix_SEQ (pv 0) pe_int (fun _ _ => rfl)) (pe_op op_MUL (pe_op op_MUL pe_int (pv 5)) (pv 5))) (pe_op op_MUL pe_int (pv 5))) pe_int) pa_nil)) pe_int))
    (pss_cons (ps_set (i := 6) sc__law_draw.nd rfl (Or.inl rfl) (pe_op op_FDIV (pe_op op_MOD (pe_callTy call_INT (by rfl) Y.m_int (by decide +kernel) (pa_cons (pe_op op_ADD (pe_op op_ADD (pe_op op_MUL (pv 6) (pv 6)) (pe_op op_MUL pe_int (pv 5))) pe_int) pa_nil)) pe_int) pe_int))
    (pss_cons (ps_set (i := 6) sc__law_draw.nd rfl (Or.inl rfl) (pe_op op_FDIV (pe_op op_MOD (pe_callTy call_INT (by rfl) Y.m_int (by decide +kernel) (pa_cons (pe_op op_ADD (pe_op op_MUL (pv 6) (pv 6)) (pe_op op_MUL pe_int (pv 5))) pa_nil)) pe_int) pe_int))
    (pss_one (ps_ret (pe_op op_MOD (pe_callTy call_INT (by rfl) Y.m_int (by decide +kernel) (pa_cons (pv 6) pa_nil)) (pv 1)))))))))))
def t__law_sign (K : PySem.W.Frag) (sp__law_draw : PySem.W.Frag → Sp) : TS :=
    (tSeq (tAsg (tC (.str " !\"#$&'()*+,-./0123456789:;<=>?@ABCDEFGHIJKLMNOPQRSTUVWXYZ[\\]^_`")) (gName 1))
    (tSeq (tAsg (tOp (rADD K) (tVar 1) (tC (.str "abcdefghijklmnopqrstuvwxyz{|}~"))) (gName 1))
    (tRet (tOp (rIX K) (tVar 1) (tCall (sp__law_draw K) [] E0 (tCons (tVar 0) (tCons (tC (.int 94)) tNil)))))))
theorem b__law_sign (Y : Fx K mg) {sp__law_draw : PySem.W.Frag → Sp} (G__law_draw : FnOk P w K mg base CX0 1 Y.a__law_draw Y.fd__law_draw ["_law_flow_here", "_law_many"] (sp__law_draw K)) {f : Addr} {cdv : Value} {A : Around} {outer : List Env} {s : Shared} {H : Hp} {E : XK} (hr : Room 1 (A.deeper (envOfC "_law_sign" (defScope s__law_sign) s.heap.objs.size f cdv))) :
    PSs (cxOf CX0 P w K mg base ["_law_flow_here", "_law_menu"] "_law_sign" (defScope s__law_sign) f cdv A outer s H E).nox (defBody s__law_sign) (t__law_sign K sp__law_draw) :=
    (pss_cons (ps_set (i := 1) sc__law_sign.nd rfl (Or.inl rfl) pe_str)
    (pss_cons (ps_set (i := 1) sc__law_sign.nd rfl (Or.inl rfl) (pe_op op_ADD (pv 1) pe_str))
    (pss_one (ps_ret (pe_ix ix_SEQ (pv 1) (pe_call G__law_draw (hr.mono (by decide)) (by rfl) Y.g__law_draw Y.F__law_draw.kp Y.b__law_draw .nil pass0 (pa_cons (pv 0) (pa_cons pe_int pa_nil))) (fun _ _ => rfl))))))
def t__law_text (K : PySem.W.Frag) (sp__law_draw : PySem.W.Frag → Sp) (sp__law_sign : PySem.W.Frag → Sp) : TS :=
    (tSeq (tAsg (tOp (rIX K) (tLst (tCons (tCB rMIN2 (tCons (tVar 1) (tCons (tC (.int 3)) tNil))) (tCons (tVar 1) tNil))) (tCall (sp__law_draw K) [] E0 (tCons (tVar 0) (tCons (tC (.int 2)) tNil)))) (gName 2))
    (tSeq (tAsg (tCall (sp__law_draw K) [] E0 (tCons (tVar 0) (tCons (tOp (rADD K) (tVar 2) (tC (.int 1))) tNil))) (gName 3))
    (tSeq (tAsg (tBM K "str" (rJoin K) (tC (.str "")) (tCons (tLc (iRng1 (tCons (tOp (rADD K) (tC (.int 1)) (tCall (sp__law_draw K) [] E0 (tCons (tVar 0) (tCons (tC (.int 3)) tNil)))) tNil)) (gName 5) tYes (tCall (sp__law_sign K) [] E0 (tCons (tVar 0) tNil)) [5]) tNil)) (gName 4))
    (tSeq (tAsg (tSl (rSL K) (tOp (rMUL K) (tVar 4) (tOp (rADD K) (tVar 3) (tC (.int 1)))) tNoPart (tPart (tVar 3))) (gName 6))
    (tSeq (tAsg (tCall (sp__law_draw K) [] E0 (tCons (tVar 0) (tCons (tOp (rADD K) (tVar 3) (tC (.int 1))) tNil))) (gName 7))
    (tRet (tOp (rADD K) (tOp (rADD K) (tSl (rSL K) (tVar 6) tNoPart (tPart (tVar 7))) (tOp (rMUL K) (tCall (sp__law_sign K) [] E0 (tCons (tVar 0) tNil)) (tCB rMIN2 (tCons (tC (.int 1)) (tCons (tOp rSUB (tVar 3) (tVar 7)) tNil))))) (tSl (rSL K) (tVar 6) (tPart (tOp (rADD K) (tVar 7) (tC (.int 1)))) tNoPart))))))))
theorem b__law_text (Y : Fx K mg) {sp__law_draw : PySem.W.Frag → Sp} {sp__law_sign : PySem.W.Frag → Sp} (G__law_draw : FnOk P w K mg base CX0 1 Y.a__law_draw Y.fd__law_draw ["_law_flow_here", "_law_many"] (sp__law_draw K)) (G__law_sign : FnOk P w K mg base CX0 2 Y.a__law_sign Y.fd__law_sign ["_law_flow_here"] (sp__law_sign K)) {f : Addr} {cdv : Value} {A : Around} {outer : List Env} {s : Shared} {H : Hp} {E : XK} (hr : Room 2 (A.deeper (envOfC "_law_text" (defScope s__law_text) s.heap.objs.size f cdv))) :
    PSs (cxOf CX0 P w K mg base ["_law_flow_here", "_law_most", "_law_upto", "_law_long", "_law_part_here", "_law_k", "_law_text_here", "_law_at"] "_law_text" (defScope s__law_text) f cdv A outer s H E).nox (defBody s__law_text) (t__law_text K sp__law_draw sp__law_sign) :=
    (pss_cons (ps_set (i := 2) sc__law_text.nd rfl (Or.inl rfl) (pe_ix ix_SEQ (pe_lst (pa_cons (pe_callB (call_MIN2 rfl) (by rfl) Y.m_min (by decide +kernel) (pa_cons (pv 1) (pa_cons pe_int pa_nil))) (pa_cons (pv 1) pa_nil))) (pe_call G__law_draw (hr.mono (by decide)) (by rfl) Y.g__law_draw Y.F__law_draw.kp Y.b__law_draw .nil pass0 (pa_cons (pv 0) (pa_cons pe_int pa_nil))) (fun _ _ => rfl)))
    (pss_cons (ps_set (i := 3) sc__law_text.nd rfl (Or.inl rfl) (pe_call G__law_draw (hr.mono (by decide)) (by rfl) Y.g__law_draw Y.F__law_draw.kp Y.b__law_draw .nil pass0 (pa_cons (pv 0) (pa_cons (pe_op op_ADD (pv 2) pe_int) pa_nil))))
    (pss_cons (ps_set (i := 4) sc__law_text.nd rfl (Or.inl rfl) (pe_bm PySem.F.plainAttrs_str PySem.F.slot_str_join PySem.F.type_str_join mt_join pe_str (pa_cons (pe_lc (own := [("_law_k", 5)]) (by rfl) sc__law_text.nd (pi_range1 (by rfl) Y.m_range (pa_cons (pe_op op_ADD pe_int (pe_call G__law_draw (hr.mono (by decide)) (by rfl) Y.g__law_draw Y.F__law_draw.kp Y.b__law_draw .nil pass0 (pa_cons (pv 0) (pa_cons pe_int pa_nil)))) pa_nil)) (blkOk_by (own := [("_law_k", 5)]) (N := ["_law_flow_here", "_law_most", "_law_upto", "_law_long", "_law_part_here", "_law_k", "_law_text_here", "_law_at"]) (sc := defScope s__law_text) (by decide +kernel)) (fun _ _ _ _ _ => (pg_name (i := 5) sc__law_text.nd rfl (Or.inl rfl))) (fun _ _ _ _ _ => pts_nil) (fun _ _ _ _ _ => (pe_call G__law_sign (hr.mono (by decide)) (by rfl) Y.g__law_sign Y.F__law_sign.kp Y.b__law_sign .nil pass0 (pa_cons (pv 0) pa_nil)))) pa_nil)))
    (pss_cons (ps_set (i := 6) sc__law_text.nd rfl (Or.inl rfl) (pe_slice sl_SEQ (pe_op op_MUL (pv 4) (pe_op op_ADD (pv 3) pe_int)) po_none (po_some (pv 3))))
    (pss_cons (ps_set (i := 7) sc__law_text.nd rfl (Or.inl rfl) (pe_call G__law_draw (hr.mono (by decide)) (by rfl) Y.g__law_draw Y.F__law_draw.kp Y.b__law_draw .nil pass0 (pa_cons (pv 0) (pa_cons (pe_op op_ADD (pv 3) pe_int) pa_nil))))
    (pss_one (ps_ret (pe_op op_ADD (pe_op op_ADD (pe_slice sl_SEQ (pv 6) po_none (po_some (pv 7))) (pe_op op_MUL (pe_call G__law_sign (hr.mono (by decide)) (by rfl) Y.g__law_sign Y.F__law_sign.kp Y.b__law_sign .nil pass0 (pa_cons (pv 0) pa_nil)) (pe_callB (call_MIN2 rfl) (by rfl) Y.m_min (by decide +kernel) (pa_cons pe_int (pa_cons (pe_op op_SUB (pv 3) (pv 7)) pa_nil))))) (pe_slice sl_SEQ (pv 6) (po_some (pe_op op_ADD (pv 7) pe_int)) po_none)))))))))
def t__law_same (K : PySem.W.Frag) (sp__law_same : PySem.W.Frag → Sp) : TS :=
    (tSeq (tIfS (tTest (tOp (rIS K) (tVar 1) (tC .non))) (tRet (tOp (rIS K) (tVar 0) (tC .non))) tNext)
    (tSeq (tIfS (tTru1 K (tCB (rISI K) (tCons (tVar 1) (tCons (tC (.ty "bool")) tNil)))) (tRet (tAndV (tCB (rISI K) (tCons (tVar 0) (tCons (tC (.ty "bool")) tNil))) (tOp (rEQ K) (tVar 0) (tVar 1)))) tNext)
    (tSeq (tIfS (tTru1 K (tCB (rISI K) (tCons (tVar 1) (tCons (tC (.ty "int")) tNil)))) (tRet (tAndV (tCB (rISI K) (tCons (tVar 0) (tCons (tC (.ty "int")) tNil))) (tAndV (tNotV (tCB (rISI K) (tCons (tVar 0) (tCons (tC (.ty "bool")) tNil)))) (tOp (rEQ K) (tVar 0) (tVar 1))))) tNext)
    (tSeq (tIfS (tTru1 K (tCB (rISI K) (tCons (tVar 1) (tCons (tC (.ty "str")) tNil)))) (tRet (tAndV (tCB (rISI K) (tCons (tVar 0) (tCons (tC (.ty "str")) tNil))) (tOp (rEQ K) (tVar 0) (tVar 1)))) tNext)
    (tSeq (tIfS (tOr (tTest (tOp (rNE K) (tCB (rISI K) (tCons (tVar 1) (tCons (tC (.ty "list")) tNil))) (tCB (rISI K) (tCons (tVar 0) (tCons (tC (.ty "list")) tNil))))) (tTest (tOp (rNE K) (tCB (rISI K) (tCons (tVar 1) (tCons (tC (.ty "tuple")) tNil))) (tCB (rISI K) (tCons (tVar 0) (tCons (tC (.ty "tuple")) tNil)))))) (tRet (tC (.bl false))) tNext)
    (tRet (tAndV (tOp (rEQ K) (tCB (rLEN K) (tCons (tVar 0) tNil)) (tCB (rLEN K) (tCons (tVar 1) tNil))) (tOp (rEQ K) (tLc (iRng1 (tCons (tCB (rLEN K) (tCons (tVar 1) tNil)) tNil)) (gName 2) (tNot (tTru1 K (tCall (sp__law_same K) [] E0 (tCons (tOp (rIX K) (tVar 0) (tVar 2)) (tCons (tOp (rIX K) (tVar 1) (tVar 2)) tNil))))) (tVar 2) [2]) (tLst tNil)))))))))
theorem b__law_same {n : Nat} (Y : Fx K mg) {sp__law_same : PySem.W.Frag → Sp} (G__law_same : FnOk P w K mg base CX0 n Y.a__law_same Y.fd__law_same ["_law_found", "_law_due"] (sp__law_same K)) {f : Addr} {cdv : Value} {A : Around} {outer : List Env} {s : Shared} {H : Hp} {E : XK} (hn : 0 ≤ n) (hr : Room n (A.deeper (envOfC "_law_same" (defScope s__law_same) s.heap.objs.size f cdv))) :
    PSs (cxOf CX0 P w K mg base ["_law_found", "_law_due", "_law_k"] "_law_same" (defScope s__law_same) f cdv A outer s H E).nox (defBody s__law_same) (t__law_same K sp__law_same) :=
    (pss_cons (ps_if (pt_cmpR op_IS (pv 1) pe_non (nomark _)) (pss_one (ps_ret (pe_cmpR op_IS (pv 0) pe_non (nomark _)))) pss_nil)
    (pss_cons (ps_if (pt_tru (pe_callB call_ISI (by rfl) Y.m_isinstance (by decide +kernel) (pa_cons (pv 1) (pa_cons (pe_bltn (v := .ty "bool") (by rfl) Y.m_bool (by decide +kernel) rfl) pa_nil))) (by intro _; rfl)) (pss_one (ps_ret (pe_and (pe_callB call_ISI (by rfl) Y.m_isinstance (by decide +kernel) (pa_cons (pv 0) (pa_cons (pe_bltn (v := .ty "bool") (by rfl) Y.m_bool (by decide +kernel) rfl) pa_nil))) (pe_one (pe_cmpR (op_EQ (hu_64 hr)) (pv 0) (pv 1) (nomark _)))))) pss_nil)
    (pss_cons (ps_if (pt_tru (pe_callB call_ISI (by rfl) Y.m_isinstance (by decide +kernel) (pa_cons (pv 1) (pa_cons (pe_bltn (v := .ty "int") (by rfl) Y.m_int (by decide +kernel) rfl) pa_nil))) (by intro _; rfl)) (pss_one (ps_ret (pe_and (pe_callB call_ISI (by rfl) Y.m_isinstance (by decide +kernel) (pa_cons (pv 0) (pa_cons (pe_bltn (v := .ty "int") (by rfl) Y.m_int (by decide +kernel) rfl) pa_nil))) (pe_and (pe_not (pe_callB call_ISI (by rfl) Y.m_isinstance (by decide +kernel) (pa_cons (pv 0) (pa_cons (pe_bltn (v := .ty "bool") (by rfl) Y.m_bool (by decide +kernel) rfl) pa_nil)))) (pe_one (pe_cmpR (op_EQ (hu_64 hr)) (pv 0) (pv 1) (nomark _))))))) pss_nil)
    (pss_cons (ps_if (pt_tru (pe_callB call_ISI (by rfl) Y.m_isinstance (by decide +kernel) (pa_cons (pv 1) (pa_cons (pe_bltn (v := .ty "str") (by rfl) Y.m_str (by decide +kernel) rfl) pa_nil))) (by intro _; rfl)) (pss_one (ps_ret (pe_and (pe_callB call_ISI (by rfl) Y.m_isinstance (by decide +kernel) (pa_cons (pv 0) (pa_cons (pe_bltn (v := .ty "str") (by rfl) Y.m_str (by decide +kernel) rfl) pa_nil))) (pe_one (pe_cmpR (op_EQ (hu_64 hr)) (pv 0) (pv 1) (nomark _)))))) pss_nil)
    (pss_cons (ps_if (PW.pt (pw_or (pt_cmpR (op_NE (hu_64 hr)) (pe_callB call_ISI (by rfl) Y.m_isinstance (by decide +kernel) (pa_cons (pv 1) (pa_cons (pe_bltn (v := .ty "list") (by rfl) Y.m_list (by decide +kernel) rfl) pa_nil))) (pe_callB call_ISI (by rfl) Y.m_isinstance (by decide +kernel) (pa_cons (pv 0) (pa_cons (pe_bltn (v := .ty "list") (by rfl) Y.m_list (by decide +kernel) rfl) pa_nil))) (nomark _)) (pw_or1 (pt_cmpR (op_NE (hu_64 hr)) (pe_callB call_ISI (by rfl) Y.m_isinstance (by decide +kernel) (pa_cons (pv 1) (pa_cons (pe_bltn (v := .ty "tuple") (by rfl) Y.m_tuple (by decide +kernel) rfl) pa_nil))) (pe_callB call_ISI (by rfl) Y.m_isinstance (by decide +kernel) (pa_cons (pv 0) (pa_cons (pe_bltn (v := .ty "tuple") (by rfl) Y.m_tuple (by decide +kernel) rfl) pa_nil))) (nomark _))))) (pss_one (ps_ret pe_bl)) pss_nil)
    (pss_one (ps_ret (pe_and (pe_cmpR (op_EQ (hu_64 hr)) (pe_callB call_LEN (by rfl) Y.m_len (by decide +kernel) (pa_cons (pv 0) pa_nil)) (pe_callB call_LEN (by rfl) Y.m_len (by decide +kernel) (pa_cons (pv 1) pa_nil)) (nomark _)) (pe_one (pe_cmpR (op_EQ (hu_64 hr)) (pe_lc (own := [("_law_k", 2)]) (by rfl) sc__law_same.nd (pi_range1 (by rfl) Y.m_range (pa_cons (pe_callB call_LEN (by rfl) Y.m_len (by decide +kernel) (pa_cons (pv 1) pa_nil)) pa_nil)) (blkOk_by (own := [("_law_k", 2)]) (N := ["_law_found", "_law_due", "_law_k"]) (sc := defScope s__law_same) (by decide +kernel)) (fun _ _ _ _ _ => (pg_name (i := 2) sc__law_same.nd rfl (Or.inl rfl))) (fun _ _ _ _ _ => (pts_one (pt_not (pt_tru (pe_call G__law_same hr (by rfl) Y.g__law_same Y.F__law_same.kp Y.b__law_same .nil pass0 (pa_cons (pe_ix ix_SEQ (pv 0) (pv 2) (fun _ _ => rfl)) (pa_cons (pe_ix ix_SEQ (pv 1) (pv 2) (fun _ _ => rfl)) pa_nil))) (by intro _; rfl))))) (fun _ _ _ _ _ => (pv 2))) (pe_lst pa_nil) (nomark _)))))))))))
def t__law_part (K : PySem.W.Frag)  : TS :=
    (tSeq (tAsg (tSl (rSL K) (tVar 0) (tPart (tVar 1)) (tPart (tOp (rADD K) (tVar 1) (tVar 2)))) (gName 3))
    (tSeq (tIfS (tOr (tTest (tOp rLT (tCB (rLEN K) (tCons (tVar 3) tNil)) (tVar 2))) (tTest (tOp (rNE K) (tLc (iStr (tVar 3)) (gName 4) (tTest (tOp (rNINU K) (tVar 4) (tC (.str "0123456789")))) (tVar 4) [4]) (tLst tNil)))) (tRet (tUn rNEG (tC (.int 1)))) tNext)
    (tRet (tCB rINT (tCons (tVar 3) tNil)))))
theorem b__law_part (Y : Fx K mg)   {f : Addr} {cdv : Value} {A : Around} {outer : List Env} {s : Shared} {H : Hp} {E : XK} (hr : Room 0 (A.deeper (envOfC "_law_part" (defScope s__law_part) s.heap.objs.size f cdv))) :
    PSs (cxOf CX0 P w K mg base ["_law_text_here", "_law_at", "_law_many", "_law_part_here", "_law_sign_here"] "_law_part" (defScope s__law_part) f cdv A outer s H E).nox (defBody s__law_part) (t__law_part K ) :=
    (pss_cons (ps_set (i := 3) sc__law_part.nd rfl (Or.inl rfl) (pe_slice sl_SEQ (pv 0) (po_some (pv 1)) (po_some (pe_op op_ADD (pv 1) (pv 2)))))
    (pss_cons (ps_if (PW.pt (pw_or (pt_cmpR op_LT (pe_callB call_LEN (by rfl) Y.m_len (by decide +kernel) (pa_cons (pv 3) pa_nil)) (pv 2) (nomark _)) (pw_or1 (pt_cmpR (op_NE (hu_64 hr)) (pe_lc (own := [("_law_sign_here", 4)]) (by rfl) sc__law_part.nd (pi_str (pv 3)) (blkOk_by (own := [("_law_sign_here", 4)]) (N := ["_law_text_here", "_law_at", "_law_many", "_law_part_here", "_law_sign_here"]) (sc := defScope s__law_part) (by decide +kernel)) (fun _ _ _ _ _ => (pg_name (i := 4) sc__law_part.nd rfl (Or.inl rfl))) (fun _ _ _ _ _ => (pts_one (pt_cmpR op_NIN (pv 4) pe_str (by with_unfolding_all rfl)))) (fun _ _ _ _ _ => (pv 4))) (pe_lst pa_nil) (nomark _))))) (pss_one (ps_ret (pe_un un_NEG pe_int))) pss_nil)
    (pss_one (ps_ret (pe_callTy call_INT (by rfl) Y.m_int (by decide +kernel) (pa_cons (pv 3) pa_nil))))))
def t__law_node_text (K : PySem.W.Frag)  : TS :=
    (tSeq (tIfS (tTest (tOp (rEQ K) (tOp (rIX K) (tVar 0) (tC (.int 0))) (tC (.str "leaf")))) (tSeq (tAsg (tLc (iTup K (tOp (rIX K) (tVar 0) (tC (.int 1)))) (gTup K 2 (gCons (gName 2) (gCons (gName 3) gNil))) tYes (tOp (rADD K) (tOp (rADD K) (tOp (rADD K) (tBM K "str" rM_zfill (tCB rSTR (tCons (tCB (rLEN K) (tCons (tVar 2) tNil)) tNil)) (tCons (tC (.int 3)) tNil)) (tBM K "str" rM_zfill (tCB rSTR (tCons (tCB (rLEN K) (tCons (tVar 3) tNil)) tNil)) (tCons (tC (.int 3)) tNil))) (tVar 2)) (tVar 3)) [2, 3]) (gName 1))
      (tRet (tOp (rADD K) (tC (.str "L")) (tBM K "str" (rJoin K) (tC (.str "")) (tCons (tVar 1) tNil))))) tNext)
    (tSeq (tAsg (tBM K "str" (rJoin K) (tC (.str "")) (tCons (tLc (iTup K (tOp (rIX K) (tVar 0) (tC (.int 2)))) (gName 5) tYes (tBM K "str" rM_zfill (tCB rSTR (tCons (tVar 5) tNil)) (tCons (tC (.int 4)) tNil)) [5]) tNil)) (gName 4))
    (tRet (tOp (rADD K) (tOp (rADD K) (tOp (rADD K) (tC (.str "I")) (tCB rSTR (tCons (tCB (rLEN K) (tCons (tOp (rIX K) (tVar 0) (tC (.int 2))) tNil)) tNil))) (tVar 4)) (tBM K "str" (rJoin K) (tC (.str "")) (tCons (tLc (iTup K (tOp (rIX K) (tVar 0) (tC (.int 1)))) (gName 6) tYes (tOp (rADD K) (tBM K "str" rM_zfill (tCB rSTR (tCons (tCB (rLEN K) (tCons (tVar 6) tNil)) tNil)) (tCons (tC (.int 3)) tNil)) (tVar 6)) [6]) tNil))))))
theorem b__law_node_text (Y : Fx K mg)   {f : Addr} {cdv : Value} {A : Around} {outer : List Env} {s : Shared} {H : Hp} {E : XK} (hr : Room 0 (A.deeper (envOfC "_law_node_text" (defScope s__law_node_text) s.heap.objs.size f cdv))) :
    PSs (cxOf CX0 P w K mg base ["_law_node_here", "_law_rows", "_law_key", "_law_value", "_law_kids", "_law_kid", "_law_mark"] "_law_node_text" (defScope s__law_node_text) f cdv A outer s H E).nox (defBody s__law_node_text) (t__law_node_text K ) :=
    (pss_cons (ps_if (pt_cmpR (op_EQ (hu_64 hr)) (pe_ix ix_SEQ (pv 0) pe_int (fun _ _ => rfl)) pe_str (nomark _)) (pss_cons (ps_setLc (i := 1) (own := [("_law_key", 2), ("_law_value", 3)]) (by rfl) sc__law_node_text.nd rfl rfl (sw_true rfl rfl rfl (by decide +kernel)) (pi_tup (pe_ix ix_SEQ (pv 0) pe_int (fun _ _ => rfl))) (blkOk_by (own := [("_law_key", 2), ("_law_value", 3)]) (N := ["_law_node_here", "_law_rows", "_law_key", "_law_value", "_law_kids", "_law_kid", "_law_mark"]) (sc := defScope s__law_node_text) (by decide +kernel)) (fun _ _ _ _ _ => (pg_tup rfl (pgs_cons (pg_name (i := 2) sc__law_node_text.nd rfl (Or.inl rfl)) (pgs_cons (pg_name (i := 3) sc__law_node_text.nd rfl (Or.inl rfl)) pgs_nil)))) (fun _ _ _ _ _ => pts_nil) (fun _ _ _ _ _ => (pe_op op_ADD (pe_op op_ADD (pe_op op_ADD (pe_bm PySem.F.plainAttrs_str PySem.F.slot_str_zfill PySem.F.type_str_zfill mt_ZFILL (pe_callTy call_STR (by rfl) Y.m_str (by decide +kernel) (pa_cons (pe_callB call_LEN (by rfl) Y.m_len (by decide +kernel) (pa_cons (pv 2) pa_nil)) pa_nil)) (pa_cons pe_int pa_nil)) (pe_bm PySem.F.plainAttrs_str PySem.F.slot_str_zfill PySem.F.type_str_zfill mt_ZFILL (pe_callTy call_STR (by rfl) Y.m_str (by decide +kernel) (pa_cons (pe_callB call_LEN (by rfl) Y.m_len (by decide +kernel) (pa_cons (pv 3) pa_nil)) pa_nil)) (pa_cons pe_int pa_nil))) (pv 2)) (pv 3))))
      (pss_one (ps_ret (pe_op op_ADD pe_str (pe_bm PySem.F.plainAttrs_str PySem.F.slot_str_join PySem.F.type_str_join mt_join pe_str (pa_cons (pv 1) pa_nil)))))) pss_nil)
    (pss_cons (ps_set (i := 4) sc__law_node_text.nd rfl (Or.inl rfl) (pe_bm PySem.F.plainAttrs_str PySem.F.slot_str_join PySem.F.type_str_join mt_join pe_str (pa_cons (pe_lc (own := [("_law_kid", 5)]) (by rfl) sc__law_node_text.nd (pi_tup (pe_ix ix_SEQ (pv 0) pe_int (fun _ _ => rfl))) (blkOk_by (own := [("_law_kid", 5)]) (N := ["_law_node_here", "_law_rows", "_law_key", "_law_value", "_law_kids", "_law_kid", "_law_mark"]) (sc := defScope s__law_node_text) (by decide +kernel)) (fun _ _ _ _ _ => (pg_name (i := 5) sc__law_node_text.nd rfl (Or.inl rfl))) (fun _ _ _ _ _ => pts_nil) (fun _ _ _ _ _ => (pe_bm PySem.F.plainAttrs_str PySem.F.slot_str_zfill PySem.F.type_str_zfill mt_ZFILL (pe_callTy call_STR (by rfl) Y.m_str (by decide +kernel) (pa_cons (pv 5) pa_nil)) (pa_cons pe_int pa_nil)))) pa_nil)))
    (pss_one (ps_ret (pe_op op_ADD (pe_op op_ADD (pe_op op_ADD pe_str (pe_callTy call_STR (by rfl) Y.m_str (by decide +kernel) (pa_cons (pe_callB call_LEN (by rfl) Y.m_len (by decide +kernel) (pa_cons (pe_ix ix_SEQ (pv 0) pe_int (fun _ _ => rfl)) pa_nil)) pa_nil))) (pv 4)) (pe_bm PySem.F.plainAttrs_str PySem.F.slot_str_join PySem.F.type_str_join mt_join pe_str (pa_cons (pe_lc (own := [("_law_mark", 6)]) (by rfl) sc__law_node_text.nd (pi_tup (pe_ix ix_SEQ (pv 0) pe_int (fun _ _ => rfl))) (blkOk_by (own := [("_law_mark", 6)]) (N := ["_law_node_here", "_law_rows", "_law_key", "_law_value", "_law_kids", "_law_kid", "_law_mark"]) (sc := defScope s__law_node_text) (by decide +kernel)) (fun _ _ _ _ _ => (pg_name (i := 6) sc__law_node_text.nd rfl (Or.inl rfl))) (fun _ _ _ _ _ => pts_nil) (fun _ _ _ _ _ => (pe_op op_ADD (pe_bm PySem.F.plainAttrs_str PySem.F.slot_str_zfill PySem.F.type_str_zfill mt_ZFILL (pe_callTy call_STR (by rfl) Y.m_str (by decide +kernel) (pa_cons (pe_callB call_LEN (by rfl) Y.m_len (by decide +kernel) (pa_cons (pv 6) pa_nil)) pa_nil)) (pa_cons pe_int pa_nil)) (pv 6)))) pa_nil)))))))
def t__law_leaf_told (K : PySem.W.Frag) (sp__law_part : PySem.W.Frag → Sp) : TS :=
    (tSeq (tPar 1 2 (tCons (tLst tNil) (tCons (tC (.int 1)) tNil)))
    (tSeq (tWhile (tTest (tOp rLT (tVar 2) (tCB (rLEN K) (tCons (tVar 0) tNil)))) (tSeq (tPar 4 5 (tCons (tCall (sp__law_part K) [] E0 (tCons (tVar 0) (tCons (tVar 2) (tCons (tC (.int 3)) tNil)))) (tCons (tCall (sp__law_part K) [] E0 (tCons (tVar 0) (tCons (tOp (rADD K) (tVar 2) (tC (.int 3))) (tCons (tC (.int 3)) tNil)))) tNil)))
      (tSeq (tAsg (tOp (rADD K) (tOp (rADD K) (tOp (rADD K) (tVar 2) (tC (.int 6))) (tVar 4)) (tVar 5)) (gName 3))
      (tSeq (tIfS (tOr (tTest (tOp rLT (tCB rMIN2 (tCons (tVar 4) (tCons (tVar 5) tNil))) (tC (.int 0)))) (tTest (tOp rGT (tVar 3) (tCB (rLEN K) (tCons (tVar 0) tNil))))) (tRet (tC .non)) tNext)
      (tSeq (tDrop (tBM K "list" rAppend (tVar 1) (tCons (tTup (tCons (tSl (rSL K) (tVar 0) (tPart (tOp (rADD K) (tVar 2) (tC (.int 6)))) (tPart (tOp (rADD K) (tOp (rADD K) (tVar 2) (tC (.int 6))) (tVar 4)))) (tCons (tSl (rSL K) (tVar 0) (tPart (tOp (rADD K) (tOp (rADD K) (tVar 2) (tC (.int 6))) (tVar 4))) (tPart (tVar 3))) tNil))) tNil)))
      (tAsg (tVar 3) (gName 2)))))))
    (tRet (tCB (rTUPLE K) (tCons (tVar 1) tNil)))))
theorem b__law_leaf_told (Y : Fx K mg) {sp__law_part : PySem.W.Frag → Sp} (G__law_part : FnOk P w K mg base CX0 1 Y.a__law_part Y.fd__law_part ["_law_text_here", "_law_at", "_law_many"] (sp__law_part K)) {f : Addr} {cdv : Value} {A : Around} {outer : List Env} {s : Shared} {H : Hp} {E : XK} (hr : Room 1 (A.deeper (envOfC "_law_leaf_told" (defScope s__law_leaf_told) s.heap.objs.size f cdv))) :
    PSs (cxOf CX0 P w K mg base ["_law_text_here", "_law_rows", "_law_at", "_law_end", "_law_one", "_law_other"] "_law_leaf_told" (defScope s__law_leaf_told) f cdv A outer s H E).nox (defBody s__law_leaf_told) (t__law_leaf_told K sp__law_part) :=
    (pss_cons (ps_par (i := 1) (j := 2) (by rfl) sc__law_leaf_told.nd rfl rfl (by decide) rfl rfl (pa_cons (pe_lst pa_nil) (pa_cons pe_int pa_nil)) (by rfl))
    (pss_cons (ps_while PassesOwn.never (pt_cmpR op_LT (pv 2) (pe_callB call_LEN (by rfl) Y.m_len (by decide +kernel) (pa_cons (pv 0) pa_nil)) (nomark _)) (pss_cons (ps_par (i := 4) (j := 5) (by rfl) sc__law_leaf_told.nd rfl rfl (by decide) rfl rfl (pa_cons (pe_call G__law_part (hr.mono (by decide)) (by rfl) Y.g__law_part Y.F__law_part.kp Y.b__law_part .nil pass0 (pa_cons (pv 0) (pa_cons (pv 2) (pa_cons pe_int pa_nil)))) (pa_cons (pe_call G__law_part (hr.mono (by decide)) (by rfl) Y.g__law_part Y.F__law_part.kp Y.b__law_part .nil pass0 (pa_cons (pv 0) (pa_cons (pe_op op_ADD (pv 2) pe_int) (pa_cons pe_int pa_nil)))) pa_nil)) (by rfl))
      (pss_cons (ps_set (i := 3) sc__law_leaf_told.nd rfl (Or.inl rfl) (pe_op op_ADD (pe_op op_ADD (pe_op op_ADD (pv 2) pe_int) (pv 4)) (pv 5)))
      (pss_cons (ps_if (PW.pt (pw_or (pt_cmpR op_LT (pe_callB (call_MIN2 rfl) (by rfl) Y.m_min (by decide +kernel) (pa_cons (pv 4) (pa_cons (pv 5) pa_nil))) pe_int (nomark _)) (pw_or1 (pt_cmpR op_GT (pv 3) (pe_callB call_LEN (by rfl) Y.m_len (by decide +kernel) (pa_cons (pv 0) pa_nil)) (nomark _))))) (pss_one (ps_ret pe_non)) pss_nil)
      (pss_cons (ps_expr (pe_bm PySem.F.plainAttrs_list PySem.F.slot_list_append PySem.F.type_list_append mt_append (pv 1) (pa_cons (pe_tup (pa_cons (pe_slice sl_SEQ (pv 0) (po_some (pe_op op_ADD (pv 2) pe_int)) (po_some (pe_op op_ADD (pe_op op_ADD (pv 2) pe_int) (pv 4)))) (pa_cons (pe_slice sl_SEQ (pv 0) (po_some (pe_op op_ADD (pe_op op_ADD (pv 2) pe_int) (pv 4))) (po_some (pv 3))) pa_nil))) pa_nil)))
      (pss_one (ps_set (i := 2) sc__law_leaf_told.nd rfl (Or.inl rfl) (pv 3))))))))
    (pss_one (ps_ret (pe_callTy call_TUPLE (by rfl) Y.m_tuple (by decide +kernel) (pa_cons (pv 1) pa_nil))))))
def t__law_node_told (K : PySem.W.Frag) (sp__law_leaf_told : PySem.W.Frag → Sp) (sp__law_part : PySem.W.Frag → Sp) : TS :=
    (tSeq (tIfS (tTest (tOp (rEQ K) (tSl (rSL K) (tVar 0) tNoPart (tPart (tC (.int 1)))) (tC (.str "L")))) (tSeq (tAsg (tCall (sp__law_leaf_told K) [] E0 (tCons (tVar 0) tNil)) (gName 1))
      (tRet (tIf (tTest (tOp (rIS K) (tVar 1) (tC .non))) (tC .non) (tTup (tCons (tC (.str "leaf")) (tCons (tVar 1) tNil)))))) tNext)
    (tSeq (tAsg (tCall (sp__law_part K) [] E0 (tCons (tVar 0) (tCons (tC (.int 1)) (tCons (tC (.int 1)) tNil)))) (gName 2))
    (tSeq (tIfS (tOr (tTest (tOp (rNE K) (tSl (rSL K) (tVar 0) tNoPart (tPart (tC (.int 1)))) (tC (.str "I")))) (tTest (tOp rLT (tVar 2) (tC (.int 1))))) (tRet (tC .non)) tNext)
    (tSeq (tAsg (tLc (iRng1 (tCons (tVar 2) tNil)) (gName 4) tYes (tCall (sp__law_part K) [] E0 (tCons (tVar 0) (tCons (tOp (rADD K) (tC (.int 2)) (tOp (rMUL K) (tC (.int 4)) (tVar 4))) (tCons (tC (.int 4)) tNil)))) [4]) (gName 3))
    (tSeq (tPar 5 6 (tCons (tLst tNil) (tCons (tOp (rADD K) (tC (.int 2)) (tOp (rMUL K) (tC (.int 4)) (tVar 2))) tNil)))
    (tSeq (tFor (iRng1 (tCons (tOp rSUB (tVar 2) (tC (.int 1))) tNil)) (gName 4) (tSeq (tAsg (tCall (sp__law_part K) [] E0 (tCons (tVar 0) (tCons (tVar 6) (tCons (tC (.int 3)) tNil)))) (gName 7))
      (tSeq (tIfS (tOr (tTest (tOp rLT (tVar 7) (tC (.int 0)))) (tTest (tOp rGT (tOp (rADD K) (tOp (rADD K) (tVar 6) (tC (.int 3))) (tVar 7)) (tCB (rLEN K) (tCons (tVar 0) tNil))))) (tRet (tC .non)) tNext)
      (tSeq (tDrop (tBM K "list" rAppend (tVar 5) (tCons (tSl (rSL K) (tVar 0) (tPart (tOp (rADD K) (tVar 6) (tC (.int 3)))) (tPart (tOp (rADD K) (tOp (rADD K) (tVar 6) (tC (.int 3))) (tVar 7)))) tNil)))
      (tAsg (tOp (rADD K) (tOp (rADD K) (tVar 6) (tC (.int 3))) (tVar 7)) (gName 6))))))
    (tSeq (tIfS (tOr (tTest (tOp rLT (tCB (rMin K) (tCons (tVar 3) tNil)) (tC (.int 0)))) (tTest (tOp (rNE K) (tVar 6) (tCB (rLEN K) (tCons (tVar 0) tNil))))) (tRet (tC .non)) tNext)
    (tRet (tTup (tCons (tC (.str "inner")) (tCons (tCB (rTUPLE K) (tCons (tVar 5) tNil)) (tCons (tCB (rTUPLE K) (tCons (tVar 3) tNil)) tNil))))))))))))
theorem b__law_node_told (Y : Fx K mg) {sp__law_leaf_told : PySem.W.Frag → Sp} {sp__law_part : PySem.W.Frag → Sp} (G__law_leaf_told : FnOk P w K mg base CX0 2 Y.a__law_leaf_told Y.fd__law_leaf_told ["_law_text_here"] (sp__law_leaf_told K)) (G__law_part : FnOk P w K mg base CX0 1 Y.a__law_part Y.fd__law_part ["_law_text_here", "_law_at", "_law_many"] (sp__law_part K)) {f : Addr} {cdv : Value} {A : Around} {outer : List Env} {s : Shared} {H : Hp} {E : XK} (hr : Room 2 (A.deeper (envOfC "_law_node_told" (defScope s__law_node_told) s.heap.objs.size f cdv))) :
    PSs (cxOf CX0 P w K mg base ["_law_text_here", "_law_rows", "_law_many", "_law_kids", "_law_k", "_law_marks", "_law_at", "_law_long"] "_law_node_told" (defScope s__law_node_told) f cdv A outer s H E).nox (defBody s__law_node_told) (t__law_node_told K sp__law_leaf_told sp__law_part) :=
    (pss_cons (ps_if (pt_cmpR (op_EQ (hu_64 hr)) (pe_slice sl_SEQ (pv 0) po_none (po_some pe_int)) pe_str (nomark _)) (pss_cons (ps_set (i := 1) sc__law_node_told.nd rfl (Or.inl rfl) (pe_call G__law_leaf_told (hr.mono (by decide)) (by rfl) Y.g__law_leaf_told Y.F__law_leaf_told.kp Y.b__law_leaf_told .nil pass0 (pa_cons (pv 0) pa_nil)))
      (pss_one (ps_ret (pe_ifExp (pt_cmpR op_IS (pv 1) pe_non (nomark _)) pe_non (pe_tup (pa_cons pe_str (pa_cons (pv 1) pa_nil))))))) pss_nil)
    (pss_cons (ps_set (i := 2) sc__law_node_told.nd rfl (Or.inl rfl) (pe_call G__law_part (hr.mono (by decide)) (by rfl) Y.g__law_part Y.F__law_part.kp Y.b__law_part .nil pass0 (pa_cons (pv 0) (pa_cons pe_int (pa_cons pe_int pa_nil)))))
    (pss_cons (ps_if (PW.pt (pw_or (pt_cmpR (op_NE (hu_64 hr)) (pe_slice sl_SEQ (pv 0) po_none (po_some pe_int)) pe_str (nomark _)) (pw_or1 (pt_cmpR op_LT (pv 2) pe_int (nomark _))))) (pss_one (ps_ret pe_non)) pss_nil)
    (pss_cons (ps_setLc (i := 3) (own := [("_law_k", 4)]) (by rfl) sc__law_node_told.nd rfl rfl (sw_true rfl rfl rfl (by decide +kernel)) (pi_range1 (by rfl) Y.m_range (pa_cons (pv 2) pa_nil)) (blkOk_by (own := [("_law_k", 4)]) (N := ["_law_text_here", "_law_rows", "_law_many", "_law_kids", "_law_k", "_law_marks", "_law_at", "_law_long"]) (sc := defScope s__law_node_told) (by decide +kernel)) (fun _ _ _ _ _ => (pg_name (i := 4) sc__law_node_told.nd rfl (Or.inl rfl))) (fun _ _ _ _ _ => pts_nil) (fun _ _ _ _ _ => (pe_call G__law_part (hr.mono (by decide)) (by rfl) Y.g__law_part Y.F__law_part.kp Y.b__law_part .nil pass0 (pa_cons (pv 0) (pa_cons (pe_op op_ADD pe_int (pe_op op_MUL pe_int (pv 4))) (pa_cons pe_int pa_nil))))))
    (pss_cons (ps_par (i := 5) (j := 6) (by rfl) sc__law_node_told.nd rfl rfl (by decide) rfl rfl (pa_cons (pe_lst pa_nil) (pa_cons (pe_op op_ADD pe_int (pe_op op_MUL pe_int (pv 2))) pa_nil)) (by rfl))
    (pss_cons (ps_for PassesOwn.never rfl (pi_range1 (by rfl) Y.m_range (pa_cons (pe_op op_SUB (pv 2) pe_int) pa_nil)) (pg_name (i := 4) sc__law_node_told.nd rfl (Or.inl rfl)) (pss_cons (ps_set (i := 7) sc__law_node_told.nd rfl (Or.inl rfl) (pe_call G__law_part (hr.mono (by decide)) (by rfl) Y.g__law_part Y.F__law_part.kp Y.b__law_part .nil pass0 (pa_cons (pv 0) (pa_cons (pv 6) (pa_cons pe_int pa_nil)))))
      (pss_cons (ps_if (PW.pt (pw_or (pt_cmpR op_LT (pv 7) pe_int (nomark _)) (pw_or1 (pt_cmpR op_GT (pe_op op_ADD (pe_op op_ADD (pv 6) pe_int) (pv 7)) (pe_callB call_LEN (by rfl) Y.m_len (by decide +kernel) (pa_cons (pv 0) pa_nil)) (nomark _))))) (pss_one (ps_ret pe_non)) pss_nil)
      (pss_cons (ps_expr (pe_bm PySem.F.plainAttrs_list PySem.F.slot_list_append PySem.F.type_list_append mt_append (pv 5) (pa_cons (pe_slice sl_SEQ (pv 0) (po_some (pe_op op_ADD (pv 6) pe_int)) (po_some (pe_op op_ADD (pe_op op_ADD (pv 6) pe_int) (pv 7)))) pa_nil)))
      (pss_one (ps_set (i := 6) sc__law_node_told.nd rfl (Or.inl rfl) (pe_op op_ADD (pe_op op_ADD (pv 6) pe_int) (pv 7))))))))
    (pss_cons (ps_if (PW.pt (pw_or (pt_cmpR op_LT (pe_callB (cr_min rfl) (by rfl) Y.m_min (by decide +kernel) (pa_cons (pv 3) pa_nil)) pe_int (nomark _)) (pw_or1 (pt_cmpR (op_NE (hu_64 hr)) (pv 6) (pe_callB call_LEN (by rfl) Y.m_len (by decide +kernel) (pa_cons (pv 0) pa_nil)) (nomark _))))) (pss_one (ps_ret pe_non)) pss_nil)
    (pss_one (ps_ret (pe_tup (pa_cons pe_str (pa_cons (pe_callTy call_TUPLE (by rfl) Y.m_tuple (by decide +kernel) (pa_cons (pv 5) pa_nil)) (pa_cons (pe_callTy call_TUPLE (by rfl) Y.m_tuple (by decide +kernel) (pa_cons (pv 3) pa_nil)) pa_nil)))))))))))))
def t__law_node (K : PySem.W.Frag) (sp__law_draw : PySem.W.Frag → Sp) (sp__law_text : PySem.W.Frag → Sp) : TS :=
    (tSeq (tAsg (tOp (rIX K) (tLst (tCons (tC (.int 3)) (tCons (tC (.int 30)) (tCons (tC (.int 300)) tNil)))) (tCall (sp__law_draw K) [] E0 (tCons (tVar 0) (tCons (tC (.int 3)) tNil)))) (gName 1))
    (tSeq (tIfS (tTest (tOp (rEQ K) (tCall (sp__law_draw K) [] E0 (tCons (tVar 0) (tCons (tC (.int 2)) tNil))) (tC (.int 0)))) (tRet (tTup (tCons (tC (.str "leaf")) (tCons (tCB (rTUPLE K) (tCons (tLc (iRng1 (tCons (tCall (sp__law_draw K) [] E0 (tCons (tVar 0) (tCons (tC (.int 7)) tNil))) tNil)) (gName 2) tYes (tTup (tCons (tCall (sp__law_text K) [] E0 (tCons (tVar 0) (tCons (tVar 1) tNil))) (tCons (tCall (sp__law_text K) [] E0 (tCons (tVar 0) (tCons (tVar 1) tNil))) tNil))) [2]) tNil)) tNil)))) tNext)
    (tSeq (tAsg (tOp (rADD K) (tC (.int 1)) (tCall (sp__law_draw K) [] E0 (tCons (tVar 0) (tCons (tC (.int 9)) tNil)))) (gName 3))
    (tSeq (tAsg (tLc (iRng1 (tCons (tVar 3) tNil)) (gName 2) tYes (tOp (rIX K) (tLst (tCons (tC (.int 0)) (tCons (tC (.int 9999)) (tCons (tCall (sp__law_draw K) [] E0 (tCons (tVar 0) (tCons (tC (.int 10000)) tNil))) (tCons (tCall (sp__law_draw K) [] E0 (tCons (tVar 0) (tCons (tC (.int 12)) tNil))) tNil))))) (tCall (sp__law_draw K) [] E0 (tCons (tVar 0) (tCons (tC (.int 4)) tNil)))) [2]) (gName 4))
    (tRet (tTup (tCons (tC (.str "inner")) (tCons (tCB (rTUPLE K) (tCons (tLc (iRng1 (tCons (tOp rSUB (tCB (rLEN K) (tCons (tVar 4) tNil)) (tC (.int 1))) tNil)) (gName 2) tYes (tCall (sp__law_text K) [] E0 (tCons (tVar 0) (tCons (tVar 1) tNil))) [2]) tNil)) (tCons (tCB (rTUPLE K) (tCons (tVar 4) tNil)) tNil)))))))))
theorem b__law_node (Y : Fx K mg) {sp__law_draw : PySem.W.Frag → Sp} {sp__law_text : PySem.W.Frag → Sp} (G__law_draw : FnOk P w K mg base CX0 1 Y.a__law_draw Y.fd__law_draw ["_law_flow_here", "_law_many"] (sp__law_draw K)) (G__law_text : FnOk P w K mg base CX0 3 Y.a__law_text Y.fd__law_text ["_law_flow_here", "_law_most"] (sp__law_text K)) {f : Addr} {cdv : Value} {A : Around} {outer : List Env} {s : Shared} {H : Hp} {E : XK} (hr : Room 3 (A.deeper (envOfC "_law_node" (defScope s__law_node) s.heap.objs.size f cdv))) :
    PSs (cxOf CX0 P w K mg base ["_law_flow_here", "_law_most", "_law_k", "_law_many", "_law_kids"] "_law_node" (defScope s__law_node) f cdv A outer s H E).nox (defBody s__law_node) (t__law_node K sp__law_draw sp__law_text) :=
    (pss_cons (ps_set (i := 1) sc__law_node.nd rfl (Or.inr rfl) (pe_ix ix_SEQ (pe_lst (pa_cons pe_int (pa_cons pe_int (pa_cons pe_int pa_nil)))) (pe_call G__law_draw (hr.mono (by decide)) (by rfl) Y.g__law_draw Y.F__law_draw.kp Y.b__law_draw .nil pass0 (pa_cons (pv 0) (pa_cons pe_int pa_nil))) (fun _ _ => rfl)))
    (pss_cons (ps_if (pt_cmpR (op_EQ (hu_64 hr)) (pe_call G__law_draw (hr.mono (by decide)) (by rfl) Y.g__law_draw Y.F__law_draw.kp Y.b__law_draw .nil pass0 (pa_cons (pv 0) (pa_cons pe_int pa_nil))) pe_int (nomark _)) (pss_one (ps_ret (pe_tup (pa_cons pe_str (pa_cons (pe_callTy call_TUPLE (by rfl) Y.m_tuple (by decide +kernel) (pa_cons (pe_lc (own := [("_law_k", 2)]) (by rfl) sc__law_node.nd (pi_range1 (by rfl) Y.m_range (pa_cons (pe_call G__law_draw (hr.mono (by decide)) (by rfl) Y.g__law_draw Y.F__law_draw.kp Y.b__law_draw .nil pass0 (pa_cons (pv 0) (pa_cons pe_int pa_nil))) pa_nil)) (blkOk_by (own := [("_law_k", 2)]) (N := ["_law_flow_here", "_law_most", "_law_k", "_law_many", "_law_kids"]) (sc := defScope s__law_node) (by decide +kernel)) (fun _ _ _ _ _ => (pg_name (i := 2) sc__law_node.nd rfl (Or.inl rfl))) (fun _ _ _ _ _ => pts_nil) (fun _ _ _ _ _ => (pe_tup (pa_cons (pe_call G__law_text (hr.mono (by decide)) (by rfl) Y.g__law_text Y.F__law_text.kp Y.b__law_text .nil pass0 (pa_cons (pv 0) (pa_cons (pv 1) pa_nil))) (pa_cons (pe_call G__law_text (hr.mono (by decide)) (by rfl) Y.g__law_text Y.F__law_text.kp Y.b__law_text .nil pass0 (pa_cons (pv 0) (pa_cons (pv 1) pa_nil))) pa_nil))))) pa_nil)) pa_nil))))) pss_nil)
    (pss_cons (ps_set (i := 3) sc__law_node.nd rfl (Or.inl rfl) (pe_op op_ADD pe_int (pe_call G__law_draw (hr.mono (by decide)) (by rfl) Y.g__law_draw Y.F__law_draw.kp Y.b__law_draw .nil pass0 (pa_cons (pv 0) (pa_cons pe_int pa_nil)))))
    (pss_cons (ps_setLc (i := 4) (own := [("_law_k", 2)]) (by rfl) sc__law_node.nd rfl rfl (sw_true rfl rfl rfl (by decide +kernel)) (pi_range1 (by rfl) Y.m_range (pa_cons (pv 3) pa_nil)) (blkOk_by (own := [("_law_k", 2)]) (N := ["_law_flow_here", "_law_most", "_law_k", "_law_many", "_law_kids"]) (sc := defScope s__law_node) (by decide +kernel)) (fun _ _ _ _ _ => (pg_name (i := 2) sc__law_node.nd rfl (Or.inl rfl))) (fun _ _ _ _ _ => pts_nil) (fun _ _ _ _ _ => (pe_ix ix_SEQ (pe_lst (pa_cons pe_int (pa_cons pe_int (pa_cons (pe_call G__law_draw (hr.mono (by decide)) (by rfl) Y.g__law_draw Y.F__law_draw.kp Y.b__law_draw .nil pass0 (pa_cons (pv 0) (pa_cons pe_int pa_nil))) (pa_cons (pe_call G__law_draw (hr.mono (by decide)) (by rfl) Y.g__law_draw Y.F__law_draw.kp Y.b__law_draw .nil pass0 (pa_cons (pv 0) (pa_cons pe_int pa_nil))) pa_nil))))) (pe_call G__law_draw (hr.mono (by decide)) (by rfl) Y.g__law_draw Y.F__law_draw.kp Y.b__law_draw .nil pass0 (pa_cons (pv 0) (pa_cons pe_int pa_nil))) (fun _ _ => rfl))))
    (pss_one (ps_ret (pe_tup (pa_cons pe_str (pa_cons (pe_callTy call_TUPLE (by rfl) Y.m_tuple (by decide +kernel) (pa_cons (pe_lc (own := [("_law_k", 2)]) (by rfl) sc__law_node.nd (pi_range1 (by rfl) Y.m_range (pa_cons (pe_op op_SUB (pe_callB call_LEN (by rfl) Y.m_len (by decide +kernel) (pa_cons (pv 4) pa_nil)) pe_int) pa_nil)) (blkOk_by (own := [("_law_k", 2)]) (N := ["_law_flow_here", "_law_most", "_law_k", "_law_many", "_law_kids"]) (sc := defScope s__law_node) (by decide +kernel)) (fun _ _ _ _ _ => (pg_name (i := 2) sc__law_node.nd rfl (Or.inl rfl))) (fun _ _ _ _ _ => pts_nil) (fun _ _ _ _ _ => (pe_call G__law_text (hr.mono (by decide)) (by rfl) Y.g__law_text Y.F__law_text.kp Y.b__law_text .nil pass0 (pa_cons (pv 0) (pa_cons (pv 1) pa_nil))))) pa_nil)) (pa_cons (pe_callTy call_TUPLE (by rfl) Y.m_tuple (by decide +kernel) (pa_cons (pv 4) pa_nil)) pa_nil))))))))))
def t__law_near (K : PySem.W.Frag) (sp__law_draw : PySem.W.Frag → Sp) (sp__law_sign : PySem.W.Frag → Sp) : TS :=
    (tSeq (tAsg (tCall (sp__law_draw K) [] E0 (tCons (tVar 0) (tCons (tOp (rADD K) (tCB (rLEN K) (tCons (tVar 1) tNil)) (tC (.int 1))) tNil))) (gName 2))
    (Evl.tCut (tIfS (tTest (tOp (rEQ K) (tCall (sp__law_draw K) [] E0 (tCons (tVar 0) (tCons (tC (.int 3)) tNil))) (tC (.int 0)))) (tAsg (tCall (sp__law_draw K) [] E0 (tCons (tVar 0) (tCons (tOp (rADD K) (tCB rMIN2 (tCons (tCB (rLEN K) (tCons (tVar 1) tNil)) (tCons (tC (.int 12)) tNil))) (tC (.int 1))) tNil))) (gName 2)) tNext)
    (tSeq (tAsg (tOp (rIX K) (tLst (tCons (tCall (sp__law_sign K) [] E0 (tCons (tVar 0) tNil)) (tCons (tC (.str "0")) (tCons (tC (.str "1")) (tCons (tC (.str "9")) (tCons (tC (.str " ")) (tCons (tC (.str "L")) (tCons (tC (.str "I")) (tCons (tC (.str "-")) tNil))))))))) (tCall (sp__law_draw K) [] E0 (tCons (tVar 0) (tCons (tC (.int 8)) tNil)))) (gName 3))
    (tSeq (tAsg (tLst (tCons (tVar 1) (tCons (tOp (rADD K) (tOp (rADD K) (tSl (rSL K) (tVar 1) tNoPart (tPart (tVar 2))) (tVar 3)) (tSl (rSL K) (tVar 1) (tPart (tOp (rADD K) (tVar 2) (tC (.int 1)))) tNoPart)) (tCons (tOp (rADD K) (tSl (rSL K) (tVar 1) tNoPart (tPart (tVar 2))) (tSl (rSL K) (tVar 1) (tPart (tOp (rADD K) (tVar 2) (tC (.int 1)))) tNoPart)) (tCons (tOp (rADD K) (tOp (rADD K) (tSl (rSL K) (tVar 1) tNoPart (tPart (tVar 2))) (tVar 3)) (tSl (rSL K) (tVar 1) (tPart (tVar 2)) tNoPart)) tNil))))) (gName 4))
    (tSeq (tAsg (tOp (rADD K) (tVar 4) (tLst (tCons (tSl (rSL K) (tVar 1) tNoPart (tPart (tVar 2))) (tCons (tOp (rADD K) (tVar 1) (tVar 3)) (tCons (tBM0 K "str" rM_lower (tVar 1)) (tCons (tOp (rADD K) (tVar 1) (tSl (rSL K) (tVar 1) (tPart (tC (.int 1))) tNoPart)) (tCons (tOp (rADD K) (tVar 1) (tC (.str "000000"))) (tCons (tSl (rSL K) (tVar 1) (tPart (tC (.int 1))) tNoPart) tNil)))))))) (gName 4))
    (tRet (tOp (rIX K) (tVar 4) (tCall (sp__law_draw K) [] E0 (tCons (tVar 0) (tCons (tC (.int 10)) tNil))))))))))
theorem b__law_near (Y : Fx K mg) {sp__law_draw : PySem.W.Frag → Sp} {sp__law_sign : PySem.W.Frag → Sp} (G__law_draw : FnOk P w K mg base CX0 1 Y.a__law_draw Y.fd__law_draw ["_law_flow_here", "_law_many"] (sp__law_draw K)) (G__law_sign : FnOk P w K mg base CX0 2 Y.a__law_sign Y.fd__law_sign ["_law_flow_here"] (sp__law_sign K)) {f : Addr} {cdv : Value} {A : Around} {outer : List Env} {s : Shared} {H : Hp} {E : XK} (hr : Room 2 (A.deeper (envOfC "_law_near" (defScope s__law_near) s.heap.objs.size f cdv))) :
    PSs (cxOf CX0 P w K mg base ["_law_flow_here", "_law_text_here", "_law_at", "_law_sign_here", "_law_ways"] "_law_near" (defScope s__law_near) f cdv A outer s H E).nox (defBody s__law_near) (t__law_near K sp__law_draw sp__law_sign) :=
    (pss_cons (ps_set (i := 2) sc__law_near.nd rfl (Or.inl rfl) (pe_call G__law_draw (hr.mono (by decide)) (by rfl) Y.g__law_draw Y.F__law_draw.kp Y.b__law_draw .nil pass0 (pa_cons (pv 0) (pa_cons (pe_op op_ADD (pe_callB call_LEN (by rfl) Y.m_len (by decide +kernel) (pa_cons (pv 1) pa_nil)) pe_int) pa_nil))))
    (Evl.pss_cut (ps_if (pt_cmpR (op_EQ (hu_64 hr)) (pe_call G__law_draw (hr.mono (by decide)) (by rfl) Y.g__law_draw Y.F__law_draw.kp Y.b__law_draw .nil pass0 (pa_cons (pv 0) (pa_cons pe_int pa_nil))) pe_int (nomark _)) (pss_one (ps_set (i := 2) sc__law_near.nd rfl (Or.inl rfl) (pe_call G__law_draw (hr.mono (by decide)) (by rfl) Y.g__law_draw Y.F__law_draw.kp Y.b__law_draw .nil pass0 (pa_cons (pv 0) (pa_cons (pe_op op_ADD (pe_callB (call_MIN2 rfl) (by rfl) Y.m_min (by decide +kernel) (pa_cons (pe_callB call_LEN (by rfl) Y.m_len (by decide +kernel) (pa_cons (pv 1) pa_nil)) (pa_cons pe_int pa_nil))) pe_int) pa_nil))))) pss_nil)
    (pss_cons (ps_set (i := 3) sc__law_near.nd rfl (Or.inl rfl) (pe_ix ix_SEQ (pe_lst (pa_cons (pe_call G__law_sign (hr.mono (by decide)) (by rfl) Y.g__law_sign Y.F__law_sign.kp Y.b__law_sign .nil pass0 (pa_cons (pv 0) pa_nil)) (pa_cons pe_str (pa_cons pe_str (pa_cons pe_str (pa_cons pe_str (pa_cons pe_str (pa_cons pe_str (pa_cons pe_str pa_nil))))))))) (pe_call G__law_draw (hr.mono (by decide)) (by rfl) Y.g__law_draw Y.F__law_draw.kp Y.b__law_draw .nil pass0 (pa_cons (pv 0) (pa_cons pe_int pa_nil))) (fun _ _ => rfl)))
    (pss_cons (ps_set (i := 4) sc__law_near.nd rfl (Or.inl rfl) (pe_lst (pa_cons (pv 1) (pa_cons (pe_op op_ADD (pe_op op_ADD (pe_slice sl_SEQ (pv 1) po_none (po_some (pv 2))) (pv 3)) (pe_slice sl_SEQ (pv 1) (po_some (pe_op op_ADD (pv 2) pe_int)) po_none)) (pa_cons (pe_op op_ADD (pe_slice sl_SEQ (pv 1) po_none (po_some (pv 2))) (pe_slice sl_SEQ (pv 1) (po_some (pe_op op_ADD (pv 2) pe_int)) po_none)) (pa_cons (pe_op op_ADD (pe_op op_ADD (pe_slice sl_SEQ (pv 1) po_none (po_some (pv 2))) (pv 3)) (pe_slice sl_SEQ (pv 1) (po_some (pv 2)) po_none)) pa_nil))))))
    (pss_cons (ps_set (i := 4) sc__law_near.nd rfl (Or.inl rfl) (pe_op op_ADD (pv 4) (pe_lst (pa_cons (pe_slice sl_SEQ (pv 1) po_none (po_some (pv 2))) (pa_cons (pe_op op_ADD (pv 1) (pv 3)) (pa_cons (pe_bm0 PySem.F.plainAttrs_str PySem.F.slot_str_lower PySem.F.type_str_lower mt_lower (pv 1)) (pa_cons (pe_op op_ADD (pv 1) (pe_slice sl_SEQ (pv 1) (po_some pe_int) po_none)) (pa_cons (pe_op op_ADD (pv 1) pe_str) (pa_cons (pe_slice sl_SEQ (pv 1) (po_some pe_int) po_none) pa_nil)))))))))
    (pss_one (ps_ret (pe_ix ix_SEQ (pv 4) (pe_call G__law_draw (hr.mono (by decide)) (by rfl) Y.g__law_draw Y.F__law_draw.kp Y.b__law_draw .nil pass0 (pa_cons (pv 0) (pa_cons pe_int pa_nil))) (fun _ _ => rfl)))))))))
def t__law_put_together (K : PySem.W.Frag) (sp__law_draw : PySem.W.Frag → Sp) : TS :=
    (tSeq (tAsg (tOp (rIX K) (tLst (tCons (tC (.str "L")) (tCons (tC (.str "I")) (tCons (tC (.str "I1")) (tCons (tC (.str "I2")) (tCons (tC (.str "I3")) (tCons (tC (.str "")) (tCons (tC (.str "l")) (tCons (tC (.str "I0")) tNil))))))))) (tCall (sp__law_draw K) [] E0 (tCons (tVar 0) (tCons (tC (.int 8)) tNil)))) (gName 1))
    (tSeq (tFor (iRng1 (tCons (tCall (sp__law_draw K) [] E0 (tCons (tVar 0) (tCons (tC (.int 30)) tNil))) tNil)) (gName 2) (tAsg (tOp (rADD K) (tVar 1) (tOp (rIX K) (tLst (tCons (tC (.str "0")) (tCons (tC (.str "0")) (tCons (tC (.str "0")) (tCons (tC (.str "0")) (tCons (tC (.str "1")) (tCons (tC (.str "2")) (tCons (tC (.str "a")) (tCons (tC (.str " ")) tNil))))))))) (tCall (sp__law_draw K) [] E0 (tCons (tVar 0) (tCons (tC (.int 8)) tNil))))) (gName 1)))
    (tRet (tVar 1))))
theorem b__law_put_together (Y : Fx K mg) {sp__law_draw : PySem.W.Frag → Sp} (G__law_draw : FnOk P w K mg base CX0 1 Y.a__law_draw Y.fd__law_draw ["_law_flow_here", "_law_many"] (sp__law_draw K)) {f : Addr} {cdv : Value} {A : Around} {outer : List Env} {s : Shared} {H : Hp} {E : XK} (hr : Room 1 (A.deeper (envOfC "_law_put_together" (defScope s__law_put_together) s.heap.objs.size f cdv))) :
    PSs (cxOf CX0 P w K mg base ["_law_flow_here", "_law_text_here", "_law_k"] "_law_put_together" (defScope s__law_put_together) f cdv A outer s H E).nox (defBody s__law_put_together) (t__law_put_together K sp__law_draw) :=
    (pss_cons (ps_set (i := 1) sc__law_put_together.nd rfl (Or.inl rfl) (pe_ix ix_SEQ (pe_lst (pa_cons pe_str (pa_cons pe_str (pa_cons pe_str (pa_cons pe_str (pa_cons pe_str (pa_cons pe_str (pa_cons pe_str (pa_cons pe_str pa_nil))))))))) (pe_call G__law_draw (hr.mono (by decide)) (by rfl) Y.g__law_draw Y.F__law_draw.kp Y.b__law_draw .nil pass0 (pa_cons (pv 0) (pa_cons pe_int pa_nil))) (fun _ _ => rfl)))
    (pss_cons (ps_for PassesOwn.never rfl (pi_range1 (by rfl) Y.m_range (pa_cons (pe_call G__law_draw (hr.mono (by decide)) (by rfl) Y.g__law_draw Y.F__law_draw.kp Y.b__law_draw .nil pass0 (pa_cons (pv 0) (pa_cons pe_int pa_nil))) pa_nil)) (pg_name (i := 2) sc__law_put_together.nd rfl (Or.inl rfl)) (pss_one (ps_set (i := 1) sc__law_put_together.nd rfl (Or.inl rfl) (pe_op op_ADD (pv 1) (pe_ix ix_SEQ (pe_lst (pa_cons pe_str (pa_cons pe_str (pa_cons pe_str (pa_cons pe_str (pa_cons pe_str (pa_cons pe_str (pa_cons pe_str (pa_cons pe_str pa_nil))))))))) (pe_call G__law_draw (hr.mono (by decide)) (by rfl) Y.g__law_draw Y.F__law_draw.kp Y.b__law_draw .nil pass0 (pa_cons (pv 0) (pa_cons pe_int pa_nil))) (fun _ _ => rfl))))))
    (pss_one (ps_ret (pv 1)))))
def t__law_full (K : PySem.W.Frag) (sp__law_text : PySem.W.Frag → Sp) : TS :=
    (tRet (tSl (rSL K) (tOp (rADD K) (tCall (sp__law_text K) [] E0 (tCons (tVar 0) (tCons (tC (.int 9)) tNil))) (tOp (rMUL K) (tC (.str "q")) (tVar 1))) tNoPart (tPart (tVar 1))))
theorem b__law_full (Y : Fx K mg) {sp__law_text : PySem.W.Frag → Sp} (G__law_text : FnOk P w K mg base CX0 3 Y.a__law_text Y.fd__law_text ["_law_flow_here", "_law_most"] (sp__law_text K)) {f : Addr} {cdv : Value} {A : Around} {outer : List Env} {s : Shared} {H : Hp} {E : XK} (hr : Room 3 (A.deeper (envOfC "_law_full" (defScope s__law_full) s.heap.objs.size f cdv))) :
    PSs (cxOf CX0 P w K mg base ["_law_flow_here", "_law_long"] "_law_full" (defScope s__law_full) f cdv A outer s H E).nox (defBody s__law_full) (t__law_full K sp__law_text) :=
    (pss_one (ps_ret (pe_slice sl_SEQ (pe_op op_ADD (pe_call G__law_text (hr.mono (by decide)) (by rfl) Y.g__law_text Y.F__law_text.kp Y.b__law_text .nil pass0 (pa_cons (pv 0) (pa_cons pe_int pa_nil))) (pe_op op_MUL pe_str (pv 1))) po_none (po_some (pv 1)))))
def t__law_rooms_right (K : PySem.W.Frag) (sp__law_draw : PySem.W.Frag → Sp) (sp__law_full : PySem.W.Frag → Sp) (sp__law_node_text : PySem.W.Frag → Sp) (sp__law_same : PySem.W.Frag → Sp) (sp_entry_room : PySem.W.Frag → Sp) (sp_node_text : PySem.W.Frag → Sp) : TS :=
    (tSeq (tAsg (tOp (rIX K) (tLst (tCons (tC (.int 100)) (tCons (tC (.int 101)) (tCons (tC (.int 102)) (tCons (tC (.int 103)) (tCons (tC (.int 1000)) (tCons (tOp (rADD K) (tC (.int 100)) (tCall (sp__law_draw K) [] E0 (tCons (tVar 0) (tCons (tC (.int 901)) tNil)))) tNil))))))) (tCall (sp__law_draw K) [] E0 (tCons (tVar 0) (tCons (tC (.int 6)) tNil)))) (gName 1))
    (tSeq (tAsg (tOp rSUB (tOp rFDIV (tOp rSUB (tVar 1) (tC (.int 1))) (tC (.int 4))) (tC (.int 6))) (gName 2))
    (tSeq (tIfS (tNot (tTru1 K (tCall (sp__law_same K) [] E0 (tCons (tLst (tCons (tCall (sp_entry_room K) [] E0 (tCons (tVar 1) tNil)) (tCons (tCallK0 (sp_entry_room K) gV_kb_entry_room_0 E0 (tCons (tVar 1) tNil)) tNil))) (tCons (tLst (tCons (tVar 2) (tCons (tVar 2) tNil))) tNil))))) (tRet (tC (.bl false))) tNext)
    (tSeq (tAsg (tLst tNil) (gName 3))
    (tSeq (tFor (iRng1 (tCons (tC (.int 4)) tNil)) (gName 4) (tSeq (tAsg (tCall (sp__law_draw K) [] E0 (tCons (tVar 0) (tCons (tOp (rADD K) (tVar 2) (tC (.int 1))) tNil))) (gName 5))
      (tDrop (tBM K "list" rAppend (tVar 3) (tCons (tTup (tCons (tCall (sp__law_full K) [] E0 (tCons (tVar 0) (tCons (tVar 5) tNil))) (tCons (tCall (sp__law_full K) [] E0 (tCons (tVar 0) (tCons (tOp rSUB (tVar 2) (tVar 5)) tNil))) tNil))) tNil)))))
    (tSeq (tAsg (tCB (rTUPLE K) (tCons (tLc (iRng1 (tCons (tC (.int 3)) tNil)) (gName 4) tYes (tCall (sp__law_full K) [] E0 (tCons (tVar 0) (tCons (tVar 2) tNil))) [4]) tNil)) (gName 6))
    (tSeq (tPar 7 8 (tCons (tTup (tCons (tC (.str "leaf")) (tCons (tCB (rTUPLE K) (tCons (tVar 3) tNil)) tNil))) (tCons (tTup (tCons (tC (.str "inner")) (tCons (tVar 6) (tCons (tTup (tCons (tC (.int 0)) (tCons (tC (.int 9999)) (tCons (tC (.int 149)) (tCons (tC (.int 1)) tNil))))) tNil)))) tNil)))
    (tSeq (tIfS (tTest (tOp rGT (tCB rMAX2 (tCons (tCB (rLEN K) (tCons (tCall (sp__law_node_text K) [] E0 (tCons (tVar 7) tNil)) tNil)) (tCons (tCB (rLEN K) (tCons (tCall (sp__law_node_text K) [] E0 (tCons (tVar 8) tNil)) tNil)) tNil))) (tVar 1))) (tRet (tC (.bl false))) tNext)
    (tRet (tCall (sp__law_same K) [] E0 (tCons (tLst (tCons (tCall (sp_node_text K) [] E0 (tCons (tVar 7) tNil)) (tCons (tCall (sp_node_text K) [] E0 (tCons (tVar 8) tNil)) tNil))) (tCons (tLst (tCons (tCall (sp__law_node_text K) [] E0 (tCons (tVar 7) tNil)) (tCons (tCall (sp__law_node_text K) [] E0 (tCons (tVar 8) tNil)) tNil))) tNil))))))))))))
theorem b__law_rooms_right (Y : Fx K mg) {sp__law_draw : PySem.W.Frag → Sp} {sp__law_full : PySem.W.Frag → Sp} {sp__law_node_text : PySem.W.Frag → Sp} {sp__law_same : PySem.W.Frag → Sp} {sp_entry_room : PySem.W.Frag → Sp} {sp_node_text : PySem.W.Frag → Sp} (G__law_draw : FnOk P w K mg base CX0 1 Y.a__law_draw Y.fd__law_draw ["_law_flow_here", "_law_many"] (sp__law_draw K)) (G__law_full : FnOk P w K mg base CX0 4 Y.a__law_full Y.fd__law_full ["_law_flow_here", "_law_long"] (sp__law_full K)) (G__law_node_text : FnOk P w K mg base CX0 1 Y.a__law_node_text Y.fd__law_node_text ["_law_node_here"] (sp__law_node_text K)) (G__law_same : FnOk P w K mg base CX0 6 Y.a__law_same Y.fd__law_same ["_law_found", "_law_due"] (sp__law_same K)) (G_entry_room : FnOk P w K mg base CX0 1 Y.a_entry_room Y.fd_entry_room ["signs"] (sp_entry_room K)) (G_node_text : FnOk P w K mg base CX0 1 Y.a_node_text Y.fd_node_text ["node"] (sp_node_text K)) {f : Addr} {cdv : Value} {A : Around} {outer : List Env} {s : Shared} {H : Hp} {E : XK} (hr : Room 6 (A.deeper (envOfC "_law_rooms_right" (defScope s__law_rooms_right) s.heap.objs.size f cdv))) :
    PSs (cxOf CX0 P w K mg base ["_law_flow_here", "_law_wide", "_law_room", "_law_rows", "_law_k", "_law_long", "_law_marks", "_law_leaf", "_law_inner"] "_law_rooms_right" (defScope s__law_rooms_right) f cdv A outer s H E).nox (defBody s__law_rooms_right) (t__law_rooms_right K sp__law_draw sp__law_full sp__law_node_text sp__law_same sp_entry_room sp_node_text) :=
    (pss_cons (ps_set (i := 1) sc__law_rooms_right.nd rfl (Or.inl rfl) (pe_ix ix_SEQ (pe_lst (pa_cons pe_int (pa_cons pe_int (pa_cons pe_int (pa_cons pe_int (pa_cons pe_int (pa_cons (pe_op op_ADD pe_int (pe_call G__law_draw (hr.mono (by decide)) (by rfl) Y.g__law_draw Y.F__law_draw.kp Y.b__law_draw .nil pass0 (pa_cons (pv 0) (pa_cons pe_int pa_nil)))) pa_nil))))))) (pe_call G__law_draw (hr.mono (by decide)) (by rfl) Y.g__law_draw Y.F__law_draw.kp Y.b__law_draw .nil pass0 (pa_cons (pv 0) (pa_cons pe_int pa_nil))) (fun _ _ => rfl)))
    (pss_cons (ps_set (i := 2) sc__law_rooms_right.nd rfl (Or.inr rfl) (pe_op op_SUB (pe_op op_FDIV (pe_op op_SUB (pv 1) pe_int) pe_int) pe_int))
    (pss_cons (ps_if (pt_not (pt_tru (pe_call G__law_same (hr.mono (by decide)) (by rfl) Y.g__law_same Y.F__law_same.kp Y.b__law_same .nil pass0 (pa_cons (pe_lst (pa_cons (pe_call G_entry_room (hr.mono (by decide)) (by rfl) Y.g_entry_room Y.F_entry_room.kp Y.b_entry_room .nil pass0 (pa_cons (pv 1) pa_nil)) (pa_cons (pe_callK0 G_entry_room (hr.mono (by decide)) (by rfl) Y.g_entry_room Y.F_entry_room.kp Y.kb_entry_room_0 pass0 (pk_cons (pv 1) pk_nil)) pa_nil))) (pa_cons (pe_lst (pa_cons (pv 2) (pa_cons (pv 2) pa_nil))) pa_nil))) (by intro _; rfl))) (pss_one (ps_ret pe_bl)) pss_nil)
    (pss_cons (ps_set (i := 3) sc__law_rooms_right.nd rfl (Or.inl rfl) (pe_lst pa_nil))
    (pss_cons (ps_for PassesOwn.never rfl (pi_range1 (by rfl) Y.m_range (pa_cons pe_int pa_nil)) (pg_name (i := 4) sc__law_rooms_right.nd rfl (Or.inl rfl)) (pss_cons (ps_set (i := 5) sc__law_rooms_right.nd rfl (Or.inl rfl) (pe_call G__law_draw (hr.mono (by decide)) (by rfl) Y.g__law_draw Y.F__law_draw.kp Y.b__law_draw .nil pass0 (pa_cons (pv 0) (pa_cons (pe_op op_ADD (pv 2) pe_int) pa_nil))))
      (pss_one (ps_expr (pe_bm PySem.F.plainAttrs_list PySem.F.slot_list_append PySem.F.type_list_append mt_append (pv 3) (pa_cons (pe_tup (pa_cons (pe_call G__law_full (hr.mono (by decide)) (by rfl) Y.g__law_full Y.F__law_full.kp Y.b__law_full .nil pass0 (pa_cons (pv 0) (pa_cons (pv 5) pa_nil))) (pa_cons (pe_call G__law_full (hr.mono (by decide)) (by rfl) Y.g__law_full Y.F__law_full.kp Y.b__law_full .nil pass0 (pa_cons (pv 0) (pa_cons (pe_op op_SUB (pv 2) (pv 5)) pa_nil))) pa_nil))) pa_nil))))))
    (pss_cons (ps_set (i := 6) sc__law_rooms_right.nd rfl (Or.inl rfl) (pe_callTy call_TUPLE (by rfl) Y.m_tuple (by decide +kernel) (pa_cons (pe_lc (own := [("_law_k", 4)]) (by rfl) sc__law_rooms_right.nd (pi_range1 (by rfl) Y.m_range (pa_cons pe_int pa_nil)) (blkOk_by (own := [("_law_k", 4)]) (N := ["_law_flow_here", "_law_wide", "_law_room", "_law_rows", "_law_k", "_law_long", "_law_marks", "_law_leaf", "_law_inner"]) (sc := defScope s__law_rooms_right) (by decide +kernel)) (fun _ _ _ _ _ => (pg_name (i := 4) sc__law_rooms_right.nd rfl (Or.inl rfl))) (fun _ _ _ _ _ => pts_nil) (fun _ _ _ _ _ => (pe_call G__law_full (hr.mono (by decide)) (by rfl) Y.g__law_full Y.F__law_full.kp Y.b__law_full .nil pass0 (pa_cons (pv 0) (pa_cons (pv 2) pa_nil))))) pa_nil)))
    (pss_cons (ps_par (i := 7) (j := 8) (by rfl) sc__law_rooms_right.nd rfl rfl (by decide) rfl rfl (pa_cons (pe_tup (pa_cons pe_str (pa_cons (pe_callTy call_TUPLE (by rfl) Y.m_tuple (by decide +kernel) (pa_cons (pv 3) pa_nil)) pa_nil))) (pa_cons (pe_tup (pa_cons pe_str (pa_cons (pv 6) (pa_cons (pe_tup (pa_cons pe_int (pa_cons pe_int (pa_cons pe_int (pa_cons pe_int pa_nil))))) pa_nil)))) pa_nil)) (by rfl))
    (pss_cons (ps_if (pt_cmpR op_GT (pe_callB (call_MAX2 rfl) (by rfl) Y.m_max (by decide +kernel) (pa_cons (pe_callB call_LEN (by rfl) Y.m_len (by decide +kernel) (pa_cons (pe_call G__law_node_text (hr.mono (by decide)) (by rfl) Y.g__law_node_text Y.F__law_node_text.kp Y.b__law_node_text .nil pass0 (pa_cons (pv 7) pa_nil)) pa_nil)) (pa_cons (pe_callB call_LEN (by rfl) Y.m_len (by decide +kernel) (pa_cons (pe_call G__law_node_text (hr.mono (by decide)) (by rfl) Y.g__law_node_text Y.F__law_node_text.kp Y.b__law_node_text .nil pass0 (pa_cons (pv 8) pa_nil)) pa_nil)) pa_nil))) (pv 1) (nomark _)) (pss_one (ps_ret pe_bl)) pss_nil)
    (pss_one (ps_ret (pe_call G__law_same (hr.mono (by decide)) (by rfl) Y.g__law_same Y.F__law_same.kp Y.b__law_same .nil pass0 (pa_cons (pe_lst (pa_cons (pe_call G_node_text (hr.mono (by decide)) (by rfl) Y.g_node_text Y.F_node_text.kp Y.b_node_text .nil pass0 (pa_cons (pv 7) pa_nil)) (pa_cons (pe_call G_node_text (hr.mono (by decide)) (by rfl) Y.g_node_text Y.F_node_text.kp Y.b_node_text .nil pass0 (pa_cons (pv 8) pa_nil)) pa_nil))) (pa_cons (pe_lst (pa_cons (pe_call G__law_node_text (hr.mono (by decide)) (by rfl) Y.g__law_node_text Y.F__law_node_text.kp Y.b__law_node_text .nil pass0 (pa_cons (pv 7) pa_nil)) (pa_cons (pe_call G__law_node_text (hr.mono (by decide)) (by rfl) Y.g__law_node_text Y.F__law_node_text.kp Y.b__law_node_text .nil pass0 (pa_cons (pv 8) pa_nil)) pa_nil))) pa_nil)))))))))))))
def t_law (K : PySem.W.Frag) (sp__law_flow : PySem.W.Frag → Sp) (sp__law_near : PySem.W.Frag → Sp) (sp__law_node : PySem.W.Frag → Sp) (sp__law_node_text : PySem.W.Frag → Sp) (sp__law_node_told : PySem.W.Frag → Sp) (sp__law_put_together : PySem.W.Frag → Sp) (sp__law_rooms_right : PySem.W.Frag → Sp) (sp__law_same : PySem.W.Frag → Sp) (sp_node_text : PySem.W.Frag → Sp) (sp_node_told : PySem.W.Frag → Sp) : TS :=
    (tSeq (tAsg (tCall (sp__law_flow K) [] E0 (tCons (tVar 0) tNil)) (gName 1))
    (tSeq (tFor (iRng1 (tCons (tOp (rADD K) (tC (.int 4)) (tCB rMIN2 (tCons (tC (.int 8)) (tCons (tCB (rLEN K) (tCons (tVar 0) tNil)) tNil)))) tNil)) (gName 2) (tSeq (tAsg (tCall (sp__law_node K) [] E0 (tCons (tVar 1) tNil)) (gName 3))
      (tSeq (tAsg (tCall (sp__law_node_text K) [] E0 (tCons (tVar 3) tNil)) (gName 4))
      (tSeq (tIfS (tNot (tTru1 K (tCall (sp__law_same K) [] E0 (tCons (tLst (tCons (tCall (sp_node_text K) [] E0 (tCons (tVar 3) tNil)) (tCons (tCallK0 (sp_node_text K) gV_kb_node_text_0 E0 (tCons (tVar 3) tNil)) (tCons (tCall (sp_node_told K) [] E0 (tCons (tVar 4) tNil)) tNil)))) (tCons (tLst (tCons (tVar 4) (tCons (tVar 4) (tCons (tVar 3) tNil)))) tNil))))) (tRet (tC (.bl false))) tNext)
      (tSeq (tAsg (tCall (sp__law_near K) [] E0 (tCons (tVar 1) (tCons (tCall (sp__law_near K) [] E0 (tCons (tVar 1) (tCons (tVar 4) tNil))) tNil))) (gName 5))
      (tSeq (tAsg (tCall (sp__law_put_together K) [] E0 (tCons (tVar 1) tNil)) (gName 6))
      (tSeq (tIfS (tNot (tTru1 K (tCall (sp__law_same K) [] E0 (tCons (tLst (tCons (tCallK0 (sp_node_told K) gV_kb_node_told_0 E0 (tCons (tVar 5) tNil)) (tCons (tCall (sp_node_told K) [] E0 (tCons (tVar 6) tNil)) tNil))) (tCons (tLst (tCons (tCall (sp__law_node_told K) [] E0 (tCons (tVar 5) tNil)) (tCons (tCall (sp__law_node_told K) [] E0 (tCons (tVar 6) tNil)) tNil))) tNil))))) (tRet (tC (.bl false))) tNext)
      (tIfS (tNot (tTru1 K (tCall (sp__law_rooms_right K) [] E0 (tCons (tVar 1) tNil)))) (tRet (tC (.bl false))) tNext))))))))
    (tRet (tC (.bl true)))))
theorem b_law (Y : Fx K mg) {sp__law_flow : PySem.W.Frag → Sp} {sp__law_near : PySem.W.Frag → Sp} {sp__law_node : PySem.W.Frag → Sp} {sp__law_node_text : PySem.W.Frag → Sp} {sp__law_node_told : PySem.W.Frag → Sp} {sp__law_put_together : PySem.W.Frag → Sp} {sp__law_rooms_right : PySem.W.Frag → Sp} {sp__law_same : PySem.W.Frag → Sp} {sp_node_text : PySem.W.Frag → Sp} {sp_node_told : PySem.W.Frag → Sp} (G__law_flow : FnOk P w K mg base CX0 1 Y.a__law_flow Y.fd__law_flow ["_law_script"] (sp__law_flow K)) (G__law_near : FnOk P w K mg base CX0 3 Y.a__law_near Y.fd__law_near ["_law_flow_here", "_law_text_here"] (sp__law_near K)) (G__law_node : FnOk P w K mg base CX0 4 Y.a__law_node Y.fd__law_node ["_law_flow_here"] (sp__law_node K)) (G__law_node_text : FnOk P w K mg base CX0 1 Y.a__law_node_text Y.fd__law_node_text ["_law_node_here"] (sp__law_node_text K)) (G__law_node_told : FnOk P w K mg base CX0 3 Y.a__law_node_told Y.fd__law_node_told ["_law_text_here"] (sp__law_node_told K)) (G__law_put_together : FnOk P w K mg base CX0 2 Y.a__law_put_together Y.fd__law_put_together ["_law_flow_here"] (sp__law_put_together K)) (G__law_rooms_right : FnOk P w K mg base CX0 7 Y.a__law_rooms_right Y.fd__law_rooms_right ["_law_flow_here"] (sp__law_rooms_right K)) (G__law_same : FnOk P w K mg base CX0 6 Y.a__law_same Y.fd__law_same ["_law_found", "_law_due"] (sp__law_same K)) (G_node_text : FnOk P w K mg base CX0 1 Y.a_node_text Y.fd_node_text ["node"] (sp_node_text K)) (G_node_told : FnOk P w K mg base CX0 3 Y.a_node_told Y.fd_node_told ["text"] (sp_node_told K)) {f : Addr} {cdv : Value} {A : Around} {outer : List Env} {s : Shared} {H : Hp} {E : XK} (hr : Room 7 (A.deeper (envOfC "law" (defScope s_law) s.heap.objs.size f cdv))) :
    PSs (cxOf CX0 P w K mg base ["_law_script", "_law_flow_here", "_law_turn", "_law_one", "_law_text_here", "_law_near_here", "_law_other"] "law" (defScope s_law) f cdv A outer s H E).nox (defBody s_law) (t_law K sp__law_flow sp__law_near sp__law_node sp__law_node_text sp__law_node_told sp__law_put_together sp__law_rooms_right sp__law_same sp_node_text sp_node_told) :=
    (pss_cons (ps_set (i := 1) sc_law.nd rfl (Or.inl rfl) (pe_call G__law_flow (hr.mono (by decide)) (by rfl) Y.g__law_flow Y.F__law_flow.kp Y.b__law_flow .nil pass0 (pa_cons (pv 0) pa_nil)))
    (pss_cons (ps_for PassesOwn.never rfl (pi_range1 (by rfl) Y.m_range (pa_cons (pe_op op_ADD pe_int (pe_callB (call_MIN2 rfl) (by rfl) Y.m_min (by decide +kernel) (pa_cons pe_int (pa_cons (pe_callB call_LEN (by rfl) Y.m_len (by decide +kernel) (pa_cons (pv 0) pa_nil)) pa_nil)))) pa_nil)) (pg_name (i := 2) sc_law.nd rfl (Or.inl rfl)) (pss_cons (ps_set (i := 3) sc_law.nd rfl (Or.inl rfl) (pe_call G__law_node (hr.mono (by decide)) (by rfl) Y.g__law_node Y.F__law_node.kp Y.b__law_node .nil pass0 (pa_cons (pv 1) pa_nil)))
      (pss_cons (ps_set (i := 4) sc_law.nd rfl (Or.inl rfl) (pe_call G__law_node_text (hr.mono (by decide)) (by rfl) Y.g__law_node_text Y.F__law_node_text.kp Y.b__law_node_text .nil pass0 (pa_cons (pv 3) pa_nil)))
      (pss_cons (ps_if (pt_not (pt_tru (pe_call G__law_same (hr.mono (by decide)) (by rfl) Y.g__law_same Y.F__law_same.kp Y.b__law_same .nil pass0 (pa_cons (pe_lst (pa_cons (pe_call G_node_text (hr.mono (by decide)) (by rfl) Y.g_node_text Y.F_node_text.kp Y.b_node_text .nil pass0 (pa_cons (pv 3) pa_nil)) (pa_cons (pe_callK0 G_node_text (hr.mono (by decide)) (by rfl) Y.g_node_text Y.F_node_text.kp Y.kb_node_text_0 pass0 (pk_cons (pv 3) pk_nil)) (pa_cons (pe_call G_node_told (hr.mono (by decide)) (by rfl) Y.g_node_told Y.F_node_told.kp Y.b_node_told .nil pass0 (pa_cons (pv 4) pa_nil)) pa_nil)))) (pa_cons (pe_lst (pa_cons (pv 4) (pa_cons (pv 4) (pa_cons (pv 3) pa_nil)))) pa_nil))) (by intro _; rfl))) (pss_one (ps_ret pe_bl)) pss_nil)
      (pss_cons (ps_set (i := 5) sc_law.nd rfl (Or.inl rfl) (pe_call G__law_near (hr.mono (by decide)) (by rfl) Y.g__law_near Y.F__law_near.kp Y.b__law_near .nil pass0 (pa_cons (pv 1) (pa_cons (pe_call G__law_near (hr.mono (by decide)) (by rfl) Y.g__law_near Y.F__law_near.kp Y.b__law_near .nil pass0 (pa_cons (pv 1) (pa_cons (pv 4) pa_nil))) pa_nil))))
      (pss_cons (ps_set (i := 6) sc_law.nd rfl (Or.inl rfl) (pe_call G__law_put_together (hr.mono (by decide)) (by rfl) Y.g__law_put_together Y.F__law_put_together.kp Y.b__law_put_together .nil pass0 (pa_cons (pv 1) pa_nil)))
      (pss_cons (ps_if (pt_not (pt_tru (pe_call G__law_same (hr.mono (by decide)) (by rfl) Y.g__law_same Y.F__law_same.kp Y.b__law_same .nil pass0 (pa_cons (pe_lst (pa_cons (pe_callK0 G_node_told (hr.mono (by decide)) (by rfl) Y.g_node_told Y.F_node_told.kp Y.kb_node_told_0 pass0 (pk_cons (pv 5) pk_nil)) (pa_cons (pe_call G_node_told (hr.mono (by decide)) (by rfl) Y.g_node_told Y.F_node_told.kp Y.b_node_told .nil pass0 (pa_cons (pv 6) pa_nil)) pa_nil))) (pa_cons (pe_lst (pa_cons (pe_call G__law_node_told (hr.mono (by decide)) (by rfl) Y.g__law_node_told Y.F__law_node_told.kp Y.b__law_node_told .nil pass0 (pa_cons (pv 5) pa_nil)) (pa_cons (pe_call G__law_node_told (hr.mono (by decide)) (by rfl) Y.g__law_node_told Y.F__law_node_told.kp Y.b__law_node_told .nil pass0 (pa_cons (pv 6) pa_nil)) pa_nil))) pa_nil))) (by intro _; rfl))) (pss_one (ps_ret pe_bl)) pss_nil)
      (pss_one (ps_if (pt_not (pt_tru (pe_call G__law_rooms_right (hr.mono (by decide)) (by rfl) Y.g__law_rooms_right Y.F__law_rooms_right.kp Y.b__law_rooms_right .nil pass0 (pa_cons (pv 1) pa_nil)) (by intro _; rfl))) (pss_one (ps_ret pe_bl)) pss_nil)))))))))
    (pss_one (ps_ret pe_bl))))
end
end My

set_option Elab.async false
set_option linter.all false
set_option maxRecDepth 100000
set_option maxHeartbeats 1000000
namespace My
open PySem PySem.Spec PyProof.Rows L2
local macro_rules | `(tactic| walk_at "side") => `(tactic| first | assumption | exact Nat.zero_le _ | decide | omega)
local macro_rules | `(tactic| walk_at "rd1") => `(tactic| first
  | with_reducible refine s_seq ?_
  | with_reducible refine x_gsub ?_
  | with_reducible refine s_asg ?_
  | ((with_reducible refine s_gn ?_); dsimp only [List.set])
  | ((with_reducible refine x_var (v := ?rdv) ?rdhv ?_); (case rdhv => rfl))
  | with_reducible refine x_c ?_
  | with_reducible refine x_op ?_
  | with_reducible refine x_cons ?_
  | with_reducible refine x_nil ?_
  | with_reducible refine x_cb ?_
  | with_reducible refine x_call ?_
  | with_reducible refine s_if ?_
  | with_reducible refine s_ret ?_
  | with_reducible refine s_retN ?_
  | with_reducible refine s_next ?_
  | with_reducible refine s_brk ?_
  | with_reducible refine s_cont ?_
  | with_reducible refine s_drop ?_
  | with_reducible refine s_par ?_
  | with_reducible refine s_par3 ?_
  | ((with_reducible refine s_p2 ?_); dsimp only [List.set])
  | ((with_reducible refine s_p3 ?_); dsimp only [List.set])
  | with_reducible refine f_r1 ?_
  | with_reducible refine f_r2 ?_
  | with_reducible refine f_l ?_
  | with_reducible refine f_t ?_
  | with_reducible refine f_s ?_
  | with_reducible refine c_r1 ?_
  | with_reducible refine c_r2 ?_
  | with_reducible refine c_l ?_
  | with_reducible refine c_t ?_
  | with_reducible refine c_s ?_
  | with_reducible refine x_tst ?_
  | with_reducible refine x_tru ?_
  | with_reducible refine x_truB ?_
  | with_reducible refine x_bl2 ?_
  | with_reducible refine x_int ?_
  | with_reducible refine x_str ?_
  | with_reducible refine x_not ?_
  | with_reducible refine x_and ?_
  | with_reducible refine x_or ?_
  | with_reducible refine x_andV ?_
  | with_reducible refine x_orV ?_
  | with_reducible refine x_notV ?_
  | with_reducible refine x_if ?_
  | with_reducible refine x_yes ?_
  | with_reducible refine x_un ?_
  | with_reducible refine x_tup ?_
  | with_reducible refine x_lst ?_
  | with_reducible refine x_callK ?_
  | with_reducible refine x_callK0 ?_
  | with_reducible refine x_bm ?_
  | with_reducible refine x_bm0 ?_
  | with_reducible refine x_tyS ?_
  | with_reducible refine x_sl ?_
  | with_reducible refine x_nopart ?_
  | with_reducible refine x_part ?_
  | with_reducible refine x_fmt0 ?_
  | with_reducible refine x_fmt ?_
  | with_reducible refine x_chain ?_
  | with_reducible refine a_ii ?_
  | with_reducible refine s_ii ?_
  | ((with_reducible refine md_ii ?rdc ?_); (case rdc => first | decide | assumption | omega))
  | with_reducible refine n_i ?_
  | with_reducible refine e_ii ?_
  | with_reducible refine e_bb ?_
  | with_reducible refine ne_ii ?_
  | with_reducible refine ne_bb ?_
  | with_reducible refine lt_ii ?_
  | with_reducible refine lt_ss ?_
  | with_reducible refine le_ii ?_
  | with_reducible refine gt_ii ?_
  | with_reducible refine gt_ss ?_
  | with_reducible refine ge_ii ?_
  | with_reducible refine e_ss ?_
  | with_reducible refine ne_ss ?_
  | with_reducible refine is_N ?_
  | with_reducible refine is_T ?_
  | with_reducible refine is_B ?_
  | with_reducible refine isn_N ?_
  | with_reducible refine isn_T ?_
  | with_reducible refine isn_B ?_
  | with_reducible refine in_s ?_
  | with_reducible refine nin_s ?_
  | with_reducible refine i_i ?_
  | with_reducible refine i_b ?_
  | with_reducible refine ab_i ?_
  | with_reducible refine mx_ii ?_
  | with_reducible refine mn_ii ?_
  | with_reducible refine ty_N ?_
  | with_reducible refine ty_B ?_
  | with_reducible refine ty_I ?_
  | with_reducible refine ty_S ?_
  | with_reducible refine ma_s ?_
  | with_reducible refine mp_s ?_
  | with_reducible refine mdg_s ?_
  | with_reducible refine mf_s ?_
  | with_reducible refine iteT ?_
  | with_reducible refine iteF ?_
  | with_reducible refine iteNt ?_
  | with_reducible refine iteNf ?_
  | with_reducible refine iteTd (by decide) ?_
  | with_reducible refine iteFd (by decide) ?_
  | with_reducible refine iteNd (by decide) ?_
  | with_reducible refine iteNdF (by decide) ?_
  | ((with_reducible refine iteFd ?rdn ?_); (case rdn => (intro rdz; cases rdz; done)))
  | ((with_reducible refine iteNdF ?rdn ?_); (case rdn => (intro rdz; cases rdz; done))))
local macro_rules | `(tactic| walk_at "rd") => `(tactic| (repeat walk_at "rd1"))
section
variable {P : Program} {w : World} {K : PySem.W.Frag} {mg : Str → Option Value} {base : Heap}
/-! is_text -/
def sp_is_text (K : PySem.W.Frag) : Sp := fun vs H Q _ => ∃ l : List Nat, vs = [.str (S l)] ∧ Q (.bl (isT l)) H
theorem ok_is_text (Y : Fx K mg) : FnOk P w K mg base CX0 1 Y.a_is_text Y.fd_is_text ["value"] (sp_is_text K) := by
  refine Y.F_is_text.ok sc_is_text (fun vs H Q E h => ?_) (fun cdv A outer s H vs Q E hr h => ?_)
  · obtain ⟨l, rfl, _⟩ := h
    rfl
  · obtain ⟨l, rfl, q⟩ := h
    refine ⟨_, b_is_text Y hr, ?_⟩
    show t_is_text K _ [some (.str (S l))] H
    unfold t_is_text
    walk_at "rd"
    rw [← is_text_eq l] at q
    refine ite2' (fun e => ?_) (fun e => ?_)
    · walk_at "rd"
      rw [e] at q
      exact q
    · rw [e] at q
      exact q
/-! number_at -/
def numAt (l : List Nat) (a k : Nat) : Option Nat := if ((l.take (a + k)).drop a).length = k ∧ k ≠ 0 ∧ isD ((l.take (a + k)).drop a) = true then some (NumText.digitsVal ((l.take (a + k)).drop a)) else none
inductive NumV : Option Nat → V → Prop where
  | some (n : Nat) : NumV (some n) (.int n)
  | none : NumV none .non
def sp_number_at (K : PySem.W.Frag) : Sp := fun vs H Q _ => ∃ (l : List Nat) (a k : Nat), vs = [.str (S l), .int a, .int k] ∧ isT l = true ∧ l.length ≤ 100000 ∧ k ≤ 100 ∧ ∀ v, NumV (numAt l a k) v → Q v H
theorem ok_number_at (Y : Fx K mg) : FnOk P w K mg base CX0 1 Y.a_number_at Y.fd_number_at ["text", "at", "size"] (sp_number_at K) := by
  refine Y.F_number_at.ok sc_number_at (fun vs H Q E h => ?_) (fun cdv A outer s H vs Q E hr h => ?_)
  · obtain ⟨l, a, k, rfl, _⟩ := h
    rfl
  · obtain ⟨l, a, k, rfl, hT, hl, hk, q⟩ := h
    refine ⟨_, b_number_at Y hr, ?_⟩
    show t_number_at K _ [some (.str (S l)), some (.int a), some (.int k), none] H
    unfold t_number_at
    walk_at "rd"
    refine sl_S (by rw [S_len]; exact Nat.le_trans hl (by decide)) ?_
    rw [show (a : Int) + (k : Int) = ((a + k : Nat) : Int) by simp, cut_mid]
    generalize hw : (l.take (a + k)).drop a = wd
    have hwl : wd.length ≤ k := by
      rw [← hw, List.length_drop, List.length_take]
      omega
    have hwT : isT wd = true := by
      rw [← hw]
      exact isT_drop _ (isT_take _ hT)
    walk_at "rd"
    refine ln_s (by rw [S_len]; exact Nat.le_trans (Nat.le_trans hwl hk) (by decide)) ?_
    rw [S_len]
    walk_at "rd"
    unfold numAt at q
    rw [hw] at q
    refine ite2' (fun e => ?_) (fun e => ?_)
    · have e1 : wd.length = k := by have := of_decide_eq_true e; omega
      walk_at "rd"
      rw [isdigit_eq hwT]
      refine ite2' (fun e => ?_) (fun e => ?_)
      · rw [Bool.and_eq_true] at e
        have e2 : wd ≠ [] := of_decide_eq_true e.1
        have e3 : k ≠ 0 := by
          intro z
          exact e2 (List.eq_nil_of_length_eq_zero (by omega))
        walk_at "rd"
        refine i_s (SX.int_S e.2 e2 (by omega)) (by rw [S_len]; omega) ?_
        rw [if_pos ⟨e1, e3, e.2⟩] at q
        exact q _ (.some _)
      · walk_at "rd"
        rw [if_neg] at q
        · exact q _ .none
        · intro z
          have e2 : wd ≠ [] := by
            intro y
            rw [y] at e1
            exact z.2.1 e1.symm
          rw [decide_eq_true e2, Bool.true_and, z.2.2] at e
          cases e
    · walk_at "rd"
      rw [if_neg] at q
      · exact q _ .none
      · intro z
        have := of_decide_eq_false e
        omega
end
end My

set_option Elab.async false
set_option linter.all false
set_option maxRecDepth 100000
set_option maxHeartbeats 1000000
namespace My
open PySem PySem.Spec PyProof.Rows L2
local macro_rules | `(tactic| walk_at "len") => `(tactic| first | assumption | omega | decide | (simp only [List.length_append, List.length_take, List.length_drop, List.length_cons, List.length_nil, List.length_replicate]; omega))
local macro_rules | `(tactic| walk_at "side") => `(tactic| first | assumption | exact Nat.zero_le _ | decide | omega)
local macro_rules | `(tactic| walk_at "rd1") => `(tactic| first
  | with_reducible refine s_seq ?_
  | with_reducible refine x_gsub ?_
  | with_reducible refine s_asg ?_
  | ((with_reducible refine s_gn ?_); dsimp only [List.set])
  | ((with_reducible refine x_var (v := ?rdv) ?rdhv ?_); (case rdhv => rfl))
  | with_reducible refine x_c ?_
  | with_reducible refine x_op ?_
  | with_reducible refine x_cons ?_
  | with_reducible refine x_nil ?_
  | with_reducible refine x_cb ?_
  | with_reducible refine x_call ?_
  | with_reducible refine s_if ?_
  | with_reducible refine s_ret ?_
  | with_reducible refine s_retN ?_
  | with_reducible refine s_next ?_
  | with_reducible refine s_brk ?_
  | with_reducible refine s_cont ?_
  | with_reducible refine s_drop ?_
  | with_reducible refine s_par ?_
  | with_reducible refine s_par3 ?_
  | ((with_reducible refine s_p2 ?_); dsimp only [List.set])
  | ((with_reducible refine s_p3 ?_); dsimp only [List.set])
  | with_reducible refine f_r1 ?_
  | with_reducible refine f_r2 ?_
  | with_reducible refine f_l ?_
  | with_reducible refine f_t ?_
  | with_reducible refine f_s ?_
  | with_reducible refine c_r1 ?_
  | with_reducible refine c_r2 ?_
  | with_reducible refine c_l ?_
  | with_reducible refine c_t ?_
  | with_reducible refine c_s ?_
  | with_reducible refine x_tst ?_
  | with_reducible refine x_tru ?_
  | with_reducible refine x_truB ?_
  | with_reducible refine x_bl2 ?_
  | with_reducible refine x_int ?_
  | with_reducible refine x_str ?_
  | with_reducible refine x_not ?_
  | with_reducible refine x_and ?_
  | with_reducible refine x_or ?_
  | with_reducible refine x_andV ?_
  | with_reducible refine x_orV ?_
  | with_reducible refine x_notV ?_
  | with_reducible refine x_if ?_
  | with_reducible refine x_yes ?_
  | with_reducible refine x_un ?_
  | with_reducible refine x_tup ?_
  | with_reducible refine x_lst ?_
  | with_reducible refine x_callK ?_
  | with_reducible refine x_callK0 ?_
  | with_reducible refine x_bm ?_
  | with_reducible refine x_bm0 ?_
  | with_reducible refine x_tyS ?_
  | with_reducible refine x_sl ?_
  | with_reducible refine x_nopart ?_
  | with_reducible refine x_part ?_
  | with_reducible refine x_fmt0 ?_
  | with_reducible refine x_gc ?_
  | with_reducible refine x_gz ?_
  | with_reducible refine x_ckw ?_
  | with_reducible refine x_fmt ?_
  | with_reducible refine x_chain ?_
  | with_reducible refine a_ii ?_
  | ((with_reducible refine sl_to ?rda ?rdb ?_); (case rda => walk_at "len"); (case rdb => walk_at "len"))
  | ((with_reducible refine sl_from ?rda ?rdb ?_); (case rda => walk_at "len"); (case rdb => walk_at "len"))
  | ((with_reducible refine sl_mid ?rda ?rdb ?rdc ?_); (case rda => walk_at "len"); (case rdb => walk_at "len"); (case rdc => walk_at "len"))
  | ((with_reducible refine a_SS ?rda ?_); (case rda => walk_at "len"))
  | ((with_reducible refine ln_S ?rda ?_); (case rda => walk_at "len"))
  | with_reducible refine e_SS ?_
  | with_reducible refine ne_SS ?_
  | with_reducible refine s_ii ?_
  | ((with_reducible refine md_ii ?rdc ?_); (case rdc => first | decide | assumption | omega))
  | with_reducible refine n_i ?_
  | with_reducible refine e_ii ?_
  | with_reducible refine e_bb ?_
  | with_reducible refine ne_ii ?_
  | with_reducible refine ne_bb ?_
  | with_reducible refine lt_ii ?_
  | with_reducible refine lt_ss ?_
  | with_reducible refine le_ii ?_
  | with_reducible refine gt_ii ?_
  | with_reducible refine gt_ss ?_
  | with_reducible refine ge_ii ?_
  | with_reducible refine e_ss ?_
  | with_reducible refine ne_ss ?_
  | with_reducible refine is_N ?_
  | with_reducible refine is_T ?_
  | with_reducible refine is_B ?_
  | with_reducible refine isn_N ?_
  | with_reducible refine isn_T ?_
  | with_reducible refine isn_B ?_
  | with_reducible refine in_s ?_
  | with_reducible refine nin_s ?_
  | with_reducible refine i_i ?_
  | with_reducible refine i_b ?_
  | with_reducible refine ab_i ?_
  | with_reducible refine mx_ii ?_
  | with_reducible refine mn_ii ?_
  | with_reducible refine ty_N ?_
  | with_reducible refine ty_B ?_
  | with_reducible refine ty_I ?_
  | with_reducible refine ty_S ?_
  | with_reducible refine ma_s ?_
  | with_reducible refine mp_s ?_
  | with_reducible refine mdg_s ?_
  | with_reducible refine mf_s ?_
  | with_reducible refine iteT ?_
  | with_reducible refine iteF ?_
  | with_reducible refine iteNt ?_
  | with_reducible refine iteNf ?_
  | with_reducible refine iteTd (by decide) ?_
  | with_reducible refine iteFd (by decide) ?_
  | with_reducible refine iteNd (by decide) ?_
  | with_reducible refine iteNdF (by decide) ?_
  | ((with_reducible refine iteFd ?rdn ?_); (case rdn => (intro rdz; cases rdz; done)))
  | ((with_reducible refine iteNdF ?rdn ?_); (case rdn => (intro rdz; cases rdz; done))))
local macro_rules | `(tactic| walk_at "rd") => `(tactic| (repeat walk_at "rd1"))
section
variable {P : Program} {w : World} {K : PySem.W.Frag} {mg : Str → Option Value} {base : Heap}
def Frm (s g : Addr) (H H' : Hp) : Prop := ∀ a o, a ≠ s → a ≠ g → H a = some o → H' a = some o
theorem Frm.refl {s g : Addr} (H : Hp) : Frm s g H H := fun _ _ _ _ h => h
theorem Frm.trans {s g : Addr} {H1 H2 H3 : Hp} (a : Frm s g H1 H2) (b : Frm s g H2 H3) : Frm s g H1 H3 := fun x o h1 h2 h => b x o h1 h2 (a x o h1 h2 h)
theorem Frm.new {s g p : Addr} {H H' : Hp} {o : HO} (a : Frm s g H H') (h : H' p = none) : Frm s g H (upd H' p o) := fun x u h1 h2 e => by
  have e' := a x u h1 h2 e
  rw [upd_ne (ne_of_none e' h)]
  exact e'
theorem Frm.updS {s g : Addr} {H H' : Hp} {o : HO} (a : Frm s g H H') : Frm s g H (upd H' s o) := fun x u h1 h2 e => by
  rw [upd_ne h1]
  exact a x u h1 h2 e
theorem Frm.updG {s g : Addr} {H H' : Hp} {o : HO} (a : Frm s g H H') : Frm s g H (upd H' g o) := fun x u h1 h2 e => by
  rw [upd_ne h2]
  exact a x u h1 h2 e
theorem Frm.same {s g : Addr} {R H H' : Hp} (a : Frm s g H H') (e : Same R H) (hs : R s = none) (hg : R g = none) : Same R H' := fun x o h => a x o (fun z => by rw [z, hs] at h; cases h) (fun z => by rw [z, hg] at h; cases h) (e x o h)
theorem dp_ints {p : Addr} {H : Hp} (ns : List Int) (h : SqL K H p (ns.map V.int)) : Dp K H (.ref p) (.list (ns.map PyData.int)) := by
  refine .lst h ?_
  clear h
  induction ns with
  | nil => exact .nil
  | cons b bs ih => exact .cons (.int b) ih
theorem shaped_ints (ns : List Int) : SeqAt.shaped (.list (ns.map PyData.int)) = true := by
  have h1 : PyData.canLayAll0 (ns.map PyData.int) = true := by
    induction ns with
    | nil => rfl
    | cons b bs ih => simp [PyData.canLayAll0, PyData.canLay0, ih]
  have h2 : PyData.depthAll (ns.map PyData.int) ≤ 1 := by
    clear h1
    induction ns with
    | nil => simp [PyData.depthAll]
    | cons b bs ih =>
      simp only [List.map_cons, PyData.depthAll, PyData.depth] at *
      omega
  unfold SeqAt.shaped
  rw [Bool.and_eq_true]
  refine ⟨h1, decide_eq_true ?_⟩
  simp only [PyData.depth]
  omega
theorem log_40 {n : Int} (h0 : 0 < n) (h : n < 2 ^ 40) : n.natAbs.log2 < 9000 := by
  have h1 : n.natAbs < 2 ^ 40 := by omega
  exact Nat.lt_trans ((Nat.log2_lt (by omega)).mpr h1) (by decide)
theorem map_get {ns : List Int} {i : Nat} {x : V} (h : (ns.map V.int)[i]? = some x) : ∃ z, ns[i]? = some z ∧ x = .int z := by
  rw [List.getElem?_map] at h
  cases e : ns[i]? with
  | none => rw [e] at h; cases h
  | some z =>
    rw [e] at h
    exact ⟨z, rfl, (Option.some.inj h).symm⟩
theorem flat_len : ∀ {cs : List (List Nat)}, (∀ c ∈ cs, c.length = 1) → cs.flatten.length = cs.length
  | [], _ => rfl
  | c :: cs, h => by
    rw [List.flatten_cons, List.length_append, h c (List.mem_cons_self ..), flat_len fun d hd => h d (List.mem_cons_of_mem _ hd), List.length_cons]
    omega
theorem isT_flat {cs : List (List Nat)} (h : ∀ c ∈ cs, isT c = true) : isT cs.flatten = true := isT_of fun x hx => by
  obtain ⟨c, hc, hm⟩ := List.mem_flatten.mp hx
  exact isT_mem (h c hc) hm
theorem repl_len (k : Nat) (l : List Nat) : (List.replicate k l).flatten.length = k * l.length := by
  rw [List.length_flatten, List.map_replicate, List.sum_replicate_nat]
theorem isT_get {l : List Nat} (h : isT l = true) {i c : Nat} (hc : l[i]? = some c) : isT [c] = true := isT_of fun x hx => by
  rw [List.mem_singleton] at hx
  subst hx
  exact isT_mem h (List.mem_of_getElem? hc)
theorem Frm.of {s g : Addr} {H H' : Hp} (e : Same H H') : Frm s g H H' := fun a o _ _ h => e a o h
theorem Frm.mut {s g B : Addr} {H H' : Hp} {o : HO} (a : Frm s g H H') (hB : H B = none) : Frm s g H (upd H' B o) := fun x u h1 h2 e => by
  rw [upd_ne (ne_of_none e hB)]
  exact a x u h1 h2 e
def RngAll (lo hi : Int) (xs : List V) : Prop := ∀ x ∈ xs, ∃ i : Int, lo ≤ i ∧ i ≤ hi ∧ x = V.int i
theorem rng_nil {lo hi : Int} : RngAll lo hi [] := fun _ h => by cases h
theorem rng_cons {lo hi i : Int} {xs : List V} (h0 : lo ≤ i) (h1 : i ≤ hi) (h : RngAll lo hi xs) : RngAll lo hi (.int i :: xs) := fun x hx => by
  rcases List.mem_cons.mp hx with rfl | hx
  · exact ⟨i, h0, h1, rfl⟩
  · exact h x hx
theorem ix_rng {H : Hp} {Q : VK} {p : Addr} {zs : List V} {lo hi : Int} {i : Int} (hp : SqL K H p zs) (ha : RngAll lo hi zs) (h0 : 0 ≤ i) (h1 : i < (zs.length : Int)) (q : ∀ z : Int, lo ≤ z → z ≤ hi → Q (.int z) H) : rIX K (.ref p) (.int i) H Q := by
  refine ix_L hp (at_in h0 h1) ?_
  have hi : i.toNat < zs.length := by omega
  obtain ⟨z, a, b, e⟩ := ha zs[i.toNat] (List.getElem_mem hi)
  rw [e]
  exact q z a b
/-! the flow of drawn numbers -/
theorem ints_ne4 {c : Addr} {x y z : V} {gr : List Int} : (HO.lst [.ref c, x, y, z]) ≠ .lst (gr.map V.int) := by
  intro e
  injection e with e
  cases gr with
  | nil => cases e
  | cons x xs =>
    injection e with e1 e2
    cases e1
def FlowAt (H : Hp) (f c : Addr) (t : Nat) : Prop := ∃ (cs : List Int) (r m n : Int), H f = some (.lst [.ref c, .int r, .int m, .int n]) ∧ H c = some (.lst (cs.map V.int)) ∧ 0 ≤ r ∧ (0 ≤ m ∧ m < 2 ^ 62) ∧ (0 ≤ n ∧ n ≤ (t : Int)) ∧ cs.length ≤ 1000
theorem FlowAt.le {H : Hp} {f c : Addr} {t u : Nat} (h : FlowAt H f c t) (e : t ≤ u) : FlowAt H f c u := by
  obtain ⟨cs, r, m, n, h1, h2, h3, h4, h5, h6⟩ := h
  exact ⟨cs, r, m, n, h1, h2, h3, h4, ⟨h5.1, by omega⟩, h6⟩
theorem FlowAt.ne {H : Hp} {f c : Addr} {t : Nat} (h : FlowAt H f c t) : f ≠ c := by
  obtain ⟨cs, r, m, n, h1, h2, _⟩ := h
  exact ne_of h1 h2 ints_ne4
theorem FlowAt.new {H : Hp} {f c p : Addr} {t : Nat} {o : HO} (h : FlowAt H f c t) (hp : H p = none) : FlowAt (upd H p o) f c t := by
  obtain ⟨cs, r, m, n, h1, h2, h3⟩ := h
  exact ⟨cs, r, m, n, by rw [upd_ne (ne_of_none h1 hp)]; exact h1, by rw [upd_ne (ne_of_none h2 hp)]; exact h2, h3⟩
theorem FlowAt.keep {H : Hp} {f c p : Addr} {t : Nat} {o : HO} (h : FlowAt H f c t) (h1 : p ≠ f) (h2 : p ≠ c) : FlowAt (upd H p o) f c t := by
  obtain ⟨cs, r, m, n, e1, e2, h3⟩ := h
  exact ⟨cs, r, m, n, by rw [upd_ne (Ne.symm h1)]; exact e1, by rw [upd_ne (Ne.symm h2)]; exact e2, h3⟩
theorem FlowAt.off {H : Hp} {f c p : Addr} {t : Nat} (h : FlowAt H f c t) (hp : H p = none) : p ≠ f ∧ p ≠ c := by
  obtain ⟨cs, r, m, n, h1, h2, _⟩ := h
  exact ⟨ne_new h1 hp, ne_new h2 hp⟩
theorem FlowAt.same {H H' : Hp} {f c : Addr} {t : Nat} (h : FlowAt H f c t) (e : Same H H') : FlowAt H' f c t := by
  obtain ⟨cs, r, m, n, h1, h2, h3⟩ := h
  exact ⟨cs, r, m, n, e _ _ h1, e _ _ h2, h3⟩
def sp__law_flow (K : PySem.W.Frag) : Sp := fun vs H Q _ => ∃ (a : Addr) (ns : List Int), vs = [.ref a] ∧ SqL K H a (ns.map V.int) ∧ ns.length ≤ 63 ∧ ∀ f c H', H f = none → H c = none → FlowAt H' f c 0 → Same H H' → Q (.ref f) H'
theorem ok__law_flow (Y : Fx K mg) : FnOk P w K mg base CX0 1 Y.a__law_flow Y.fd__law_flow ["_law_script"] (sp__law_flow K) := by
  refine Y.F__law_flow.ok sc__law_flow (fun vs H Q E h => ?_) (fun cdv A outer st H vs Q E hr h => ?_)
  · obtain ⟨a, ns, rfl, _⟩ := h
    rfl
  · obtain ⟨a, ns, rfl, hS, hl, q⟩ := h
    refine ⟨_, b__law_flow Y hr, ?_⟩
    show t__law_flow K _ [some (.ref a)] H
    unfold t__law_flow
    walk_at "rd"
    refine ⟨a, _, rfl, .inl hS, fun c hc => ?_⟩
    walk_at "rd"
    refine ⟨by show 4 ≤ sizeLine; decide, fun f hf => ?_⟩
    refine q f c _ ((same_upd hc).free hf) hc ⟨ns, 0, 11, 0, upd_same, ?_, by decide, by decide, by decide, by omega⟩ (same_new (same_upd hc) hf)
    exact same_upd hf _ _ upd_same
def sp__law_draw (K : PySem.W.Frag) : Sp := fun vs H Q _ => ∃ (f c : Addr) (n : Int) (t : Nat), vs = [.ref f, .int n] ∧ FlowAt H f c t ∧ t < 2 ^ 60 ∧ 0 < n ∧ n < 2 ^ 40 ∧ ∀ r H', 0 ≤ r → r < n → FlowAt H' f c (t + 1) → Frm f c H H' → Q (.int r) H'
theorem ok__law_draw (Y : Fx K mg) : FnOk P w K mg base CX0 1 Y.a__law_draw Y.fd__law_draw ["_law_flow_here", "_law_many"] (sp__law_draw K) := by
  refine Y.F__law_draw.ok sc__law_draw (fun vs H Q E h => ?_) (fun cdv A outer st H vs Q E hr h => ?_)
  · obtain ⟨f, c, n, t, rfl, _⟩ := h
    rfl
  · obtain ⟨f, c, n, t, rfl, hFl, ht, hn0, hn1, q⟩ := h
    have hne := hFl.ne
    refine ⟨_, b__law_draw Y hr, ?_⟩
    show t__law_draw K _ [some (.ref f), some (.int n), none, none, none, none, none] H
    unfold t__law_draw
    refine s_cut (fun σ' H' => ∃ y2, σ' = [some (.ref f), some (.int n), y2, none, none, none, none] ∧ FlowAt H' f c t ∧ Frm f c H H') ?_ ?_
    · have hFl' := hFl
      obtain ⟨cs, r, m, u, hf, hc, hr0, hm, hu, hl⟩ := hFl
      walk_at "rd"
      refine ix_L (lst_of hf) (by rfl) ?_
      walk_at "rd"
      refine ite2' (fun e => ?_) (fun e => ?_)
      · walk_at "rd"
        refine ix_L (lst_of hf) (by rfl) ?_
        walk_at "rd"
        refine ⟨Nat.zero_le _, fun p hp => ?_⟩
        have hf3 := same_upd hp (o := .lst []) _ _ hf
        have hc3 := same_upd hp (o := .lst []) _ _ hc
        have hF3 := (Frm.refl (s := f) (g := c) H).new hp (o := .lst [])
        refine ne_d (dp_ints cs (lst_of hc3)) (.lst (lst_of upd_same) .nil) (shaped_ints cs) (by decide) ?_
        generalize upd H p (.lst []) = H3 at hf3 hc3 hF3
        cases cs with
        | nil =>
          show ∃ k, V.bl (!true) = .bl k ∧ _
          walk_at "rd"
          exact ⟨_, rfl, ⟨[], r, m, u, hf3, hc3, hr0, hm, hu, by decide⟩, hF3⟩
        | cons x xs =>
          show ∃ k, V.bl (!false) = .bl k ∧ _
          walk_at "rd"
          refine ix_L (lst_of hf3) (by rfl) ?_
          refine x_tyL (lst_of hc3) ?_
          walk_at "rd"
          refine pop_L hc3 ?_
          have hf4 : upd H3 c (.lst (xs.map V.int)) f = some (.lst [.ref c, .int r, .int m, .int u]) := by rw [upd_ne hne]; exact hf3
          have hc4 : upd H3 c (.lst (xs.map V.int)) c = some (.lst (xs.map V.int)) := upd_same
          have hF4 : Frm f c H (upd H3 c (.lst (xs.map V.int))) := hF3.updG
          show (fun v H' => _ : VK) (.int x) (upd H3 c (.lst (xs.map V.int)))
          generalize upd H3 c (.lst (xs.map V.int)) = H4 at hf4 hc4 hF4
          walk_at "rd"
          refine pw_ii ⟨by decide, by decide, by decide⟩ ?_
          walk_at "rd"
          have hb : 0 ≤ (if (if x < 0 then -x else x) - 10 ^ Int.toNat 18 > 0 then (if x < 0 then -x else x) - 10 ^ Int.toNat 18 else 0) := by
            split <;> omega
          generalize (if (if x < 0 then -x else x) - 10 ^ Int.toNat 18 > 0 then (if x < 0 then -x else x) - 10 ^ Int.toNat 18 else 0) = r2 at hb
          refine st_L hf4 (by decide) (by show (1 : Int) < 4; decide) ?_
          have hf5 : upd H4 f (.lst [.ref c, .int r2, .int m, .int u]) f = some (.lst [.ref c, .int r2, .int m, .int u]) := upd_same
          have hc5 : upd H4 f (.lst [.ref c, .int r2, .int m, .int u]) c = some (.lst (xs.map V.int)) := by rw [upd_ne (Ne.symm hne)]; exact hc4
          have hF5 : Frm f c H (upd H4 f (.lst [.ref c, .int r2, .int m, .int u])) := hF4.updS
          show tAsg _ _ _ _ (upd H4 f (.lst [.ref c, .int r2, .int m, .int u]))
          generalize upd H4 f (.lst [.ref c, .int r2, .int m, .int u]) = H5 at hf5 hc5 hF5
          walk_at "rd"
          refine ix_L (lst_of hf5) (by rfl) ?_
          walk_at "rd"
          refine m_ii (.inl (.inr (by decide))) ?_
          walk_at "rd"
          refine st_L hf5 (by decide) (by show (2 : Int) < 4; decide) ?_
          refine ⟨_, rfl, ⟨xs, r2, _, u, upd_same, ?_, hb, ⟨Int.emod_nonneg _ (by decide), Int.lt_trans (Int.emod_lt_of_pos _ (by decide)) (by decide)⟩, hu, Nat.le_of_succ_le hl⟩, hF5.updS⟩
          rw [upd_ne (Ne.symm hne)]
          exact hc5
      · walk_at "rd"
        exact ⟨_, rfl, hFl', Frm.refl H⟩
    · clear hFl
      rintro σ' H1 ⟨y2, rfl, ⟨cs, r, m, u, hf, hc, hr0, hm, hu, hl⟩, hF1⟩
      walk_at "rd"
      refine ix_L (lst_of hf) (by rfl) ?_
      walk_at "rd"
      refine ite2' (fun e => ?_) (fun e => ?_)
      · walk_at "rd"
        refine ix_L (lst_of hf) (by rfl) ?_
        walk_at "rd"
        refine fd_ii ⟨hn0, log_40 hn0 hn1⟩ ?_
        walk_at "rd"
        refine ix_L (lst_of hf) (by rfl) ?_
        walk_at "rd"
        refine m_ii (.inl (.inr ⟨by omega, by omega⟩)) ?_
        walk_at "rd"
        refine st_L hf (by decide) (by show (1 : Int) < 4; decide) ?_
        walk_at "rd"
        rw [show r - r / n * n = r % n by rw [Int.emod_def, Int.mul_comm]]
        refine q _ _ (Int.emod_nonneg _ (by omega)) (Int.emod_lt_of_pos _ hn0) ⟨cs, r / n, m, u, upd_same, ?_, Int.ediv_nonneg hr0 (by omega), hm, ⟨hu.1, by omega⟩, hl⟩ hF1.updS
        rw [upd_ne (Ne.symm hne)]
        exact hc
      · walk_at "rd"
        refine ix_L (lst_of hf) (by rfl) ?_
        walk_at "rd"
        refine st_L hf (by decide) (by show (3 : Int) < 4; decide) ?_
        have hf5 : upd H1 f (.lst [.ref c, .int r, .int m, .int (u + 1)]) f = some (.lst [.ref c, .int r, .int m, .int (u + 1)]) := upd_same
        have hc5 : upd H1 f (.lst [.ref c, .int r, .int m, .int (u + 1)]) c = some (.lst (cs.map V.int)) := by rw [upd_ne (Ne.symm hne)]; exact hc
        have hF5 : Frm f c H (upd H1 f (.lst [.ref c, .int r, .int m, .int (u + 1)])) := hF1.updS
        show tSeq _ _ _ _ (upd H1 f (.lst [.ref c, .int r, .int m, .int (u + 1)]))
        generalize upd H1 f (.lst [.ref c, .int r, .int m, .int (u + 1)]) = H5 at hf5 hc5 hF5
        have hq : ∀ z : Int, 0 ≤ z → z < n → Q (.int z) H5 := fun z a b => q z H5 a b ⟨cs, r, m, u + 1, hf5, hc5, hr0, hm, ⟨by omega, by omega⟩, hl⟩ hF5
        clear q
        have hv0 : 0 ≤ u + 1 := by omega
        have hv1 : u + 1 < 2 ^ 61 := by omega
        generalize u + 1 = v at hf5 hv0 hv1
        walk_at "rd"
        refine ix_L (lst_of hf5) (by rfl) ?_
        walk_at "rd"
        refine ix_L (lst_of hf5) (by rfl) ?_
        walk_at "rd"
        refine m_ii (.inl (.inl (by decide))) ?_
        walk_at "rd"
        refine m_ii (.inl (.inr ⟨by omega, by omega⟩)) ?_
        walk_at "rd"
        refine m_ii (.inl (.inl (by decide))) ?_
        walk_at "rd"
        generalize he : (m + 7919 * v * v + 15485863 * v + 3) % 2305843009213693951 = e1
        have a0 : 0 ≤ e1 := by rw [← he]; exact Int.emod_nonneg _ (by decide)
        have a1 : e1 < 2305843009213693951 := by rw [← he]; exact Int.emod_lt_of_pos _ (by decide)
        refine m_ii (.inl (.inl ⟨by omega, by omega⟩)) ?_
        walk_at "rd"
        refine m_ii (.inl (.inl (by decide))) ?_
        walk_at "rd"
        generalize he2 : (e1 * e1 + 104729 * v + 5) % 2305843009213693951 = e2
        have c0 : 0 ≤ e2 := by rw [← he2]; exact Int.emod_nonneg _ (by decide)
        have c1 : e2 < 2305843009213693951 := by rw [← he2]; exact Int.emod_lt_of_pos _ (by decide)
        refine fd_ii ⟨by decide, by decide⟩ ?_
        walk_at "rd"
        refine m_ii (.inl (.inl ⟨by omega, by omega⟩)) ?_
        walk_at "rd"
        refine m_ii (.inl (.inl (by decide))) ?_
        walk_at "rd"
        refine fd_ii ⟨by decide, by decide⟩ ?_
        walk_at "rd"
        exact hq _ (Int.emod_nonneg _ (by omega)) (Int.emod_lt_of_pos _ hn0)
end
end My

set_option Elab.async false
set_option linter.all false
set_option maxRecDepth 100000
set_option maxHeartbeats 1000000
namespace My
open PySem PySem.Spec PyProof.Rows L2
local macro_rules | `(tactic| walk_at "len") => `(tactic| first | assumption | omega | decide | (simp only [List.length_append, List.length_take, List.length_drop, List.length_cons, List.length_nil, List.length_replicate]; omega))
local macro_rules | `(tactic| walk_at "side") => `(tactic| first | assumption | exact Nat.zero_le _ | decide | omega)
local macro_rules | `(tactic| walk_at "rd1") => `(tactic| first
  | with_reducible refine s_seq ?_
  | with_reducible refine x_gsub ?_
  | with_reducible refine s_asg ?_
  | ((with_reducible refine s_gn ?_); dsimp only [List.set])
  | ((with_reducible refine x_var (v := ?rdv) ?rdhv ?_); (case rdhv => rfl))
  | with_reducible refine x_c ?_
  | with_reducible refine x_op ?_
  | with_reducible refine x_cons ?_
  | with_reducible refine x_nil ?_
  | with_reducible refine x_cb ?_
  | with_reducible refine x_call ?_
  | with_reducible refine s_if ?_
  | with_reducible refine s_ret ?_
  | with_reducible refine s_retN ?_
  | with_reducible refine s_next ?_
  | with_reducible refine s_brk ?_
  | with_reducible refine s_cont ?_
  | with_reducible refine s_drop ?_
  | with_reducible refine s_par ?_
  | with_reducible refine s_par3 ?_
  | ((with_reducible refine s_p2 ?_); dsimp only [List.set])
  | ((with_reducible refine s_p3 ?_); dsimp only [List.set])
  | with_reducible refine f_r1 ?_
  | with_reducible refine f_r2 ?_
  | with_reducible refine f_l ?_
  | with_reducible refine f_t ?_
  | with_reducible refine f_s ?_
  | with_reducible refine c_r1 ?_
  | with_reducible refine c_r2 ?_
  | with_reducible refine c_l ?_
  | with_reducible refine c_t ?_
  | with_reducible refine c_s ?_
  | with_reducible refine x_tst ?_
  | with_reducible refine x_tru ?_
  | with_reducible refine x_truB ?_
  | with_reducible refine x_bl2 ?_
  | with_reducible refine x_int ?_
  | with_reducible refine x_str ?_
  | with_reducible refine x_not ?_
  | with_reducible refine x_and ?_
  | with_reducible refine x_or ?_
  | with_reducible refine x_andV ?_
  | with_reducible refine x_orV ?_
  | with_reducible refine x_notV ?_
  | with_reducible refine x_if ?_
  | with_reducible refine x_yes ?_
  | with_reducible refine x_un ?_
  | with_reducible refine x_tup ?_
  | with_reducible refine x_lst ?_
  | with_reducible refine x_callK ?_
  | with_reducible refine x_callK0 ?_
  | with_reducible refine x_bm ?_
  | with_reducible refine x_bm0 ?_
  | with_reducible refine x_tyS ?_
  | with_reducible refine x_sl ?_
  | with_reducible refine x_nopart ?_
  | with_reducible refine x_part ?_
  | with_reducible refine x_fmt0 ?_
  | with_reducible refine x_gc ?_
  | with_reducible refine x_gz ?_
  | with_reducible refine x_ckw ?_
  | with_reducible refine x_fmt ?_
  | with_reducible refine x_chain ?_
  | with_reducible refine a_ii ?_
  | ((with_reducible refine sl_to ?rda ?rdb ?_); (case rda => walk_at "len"); (case rdb => walk_at "len"))
  | ((with_reducible refine sl_from ?rda ?rdb ?_); (case rda => walk_at "len"); (case rdb => walk_at "len"))
  | ((with_reducible refine sl_mid ?rda ?rdb ?rdc ?_); (case rda => walk_at "len"); (case rdb => walk_at "len"); (case rdc => walk_at "len"))
  | ((with_reducible refine a_SS ?rda ?_); (case rda => walk_at "len"))
  | ((with_reducible refine ln_S ?rda ?_); (case rda => walk_at "len"))
  | with_reducible refine e_SS ?_
  | with_reducible refine ne_SS ?_
  | with_reducible refine s_ii ?_
  | ((with_reducible refine md_ii ?rdc ?_); (case rdc => first | decide | assumption | omega))
  | with_reducible refine n_i ?_
  | with_reducible refine e_ii ?_
  | with_reducible refine e_bb ?_
  | with_reducible refine ne_ii ?_
  | with_reducible refine ne_bb ?_
  | with_reducible refine lt_ii ?_
  | with_reducible refine lt_ss ?_
  | with_reducible refine le_ii ?_
  | with_reducible refine gt_ii ?_
  | with_reducible refine gt_ss ?_
  | with_reducible refine ge_ii ?_
  | with_reducible refine e_ss ?_
  | with_reducible refine ne_ss ?_
  | with_reducible refine is_N ?_
  | with_reducible refine is_T ?_
  | with_reducible refine is_B ?_
  | with_reducible refine isn_N ?_
  | with_reducible refine isn_T ?_
  | with_reducible refine isn_B ?_
  | with_reducible refine in_s ?_
  | with_reducible refine nin_s ?_
  | with_reducible refine i_i ?_
  | with_reducible refine i_b ?_
  | with_reducible refine ab_i ?_
  | with_reducible refine mx_ii ?_
  | with_reducible refine mn_ii ?_
  | with_reducible refine ty_N ?_
  | with_reducible refine ty_B ?_
  | with_reducible refine ty_I ?_
  | with_reducible refine ty_S ?_
  | with_reducible refine ma_s ?_
  | with_reducible refine mp_s ?_
  | with_reducible refine mdg_s ?_
  | with_reducible refine mf_s ?_
  | with_reducible refine iteT ?_
  | with_reducible refine iteF ?_
  | with_reducible refine iteNt ?_
  | with_reducible refine iteNf ?_
  | with_reducible refine iteTd (by decide) ?_
  | with_reducible refine iteFd (by decide) ?_
  | with_reducible refine iteNd (by decide) ?_
  | with_reducible refine iteNdF (by decide) ?_
  | ((with_reducible refine iteFd ?rdn ?_); (case rdn => (intro rdz; cases rdz; done)))
  | ((with_reducible refine iteNdF ?rdn ?_); (case rdn => (intro rdz; cases rdz; done))))
local macro_rules | `(tactic| walk_at "rd") => `(tactic| (repeat walk_at "rd1"))
section
variable {P : Program} {w : World} {K : PySem.W.Frag} {mg : Str → Option Value} {base : Heap}
theorem rep1 (k c : Nat) : (List.replicate k [c]).flatten = List.replicate k c := by
  induction k with
  | zero => rfl
  | succ k ih => rw [List.replicate_succ, List.flatten_cons, ih]; rfl
theorem rep1_isT {k c : Nat} (h : isT [c] = true) : isT (List.replicate k c) = true := isT_of fun x hx => by
  rw [(List.mem_replicate.mp hx).2]
  exact isT_mem h (List.mem_singleton.mpr rfl)
def menu1 : List Nat := [32, 33, 34, 35, 36, 38, 39, 40, 41, 42, 43, 44, 45, 46, 47, 48, 49, 50, 51, 52, 53, 54, 55, 56, 57, 58, 59, 60, 61, 62, 63, 64, 65, 66, 67, 68, 69, 70, 71, 72, 73, 74, 75, 76, 77, 78, 79, 80, 81, 82, 83, 84, 85, 86, 87, 88, 89, 90, 91, 92, 93, 94, 95, 96]
def menu2 : List Nat := [97, 98, 99, 100, 101, 102, 103, 104, 105, 106, 107, 108, 109, 110, 111, 112, 113, 114, 115, 116, 117, 118, 119, 120, 121, 122, 123, 124, 125, 126]
def sp__law_sign (K : PySem.W.Frag) : Sp := fun vs H Q _ => ∃ (f c : Addr) (t : Nat), vs = [.ref f] ∧ FlowAt H f c t ∧ t < 2 ^ 60 ∧ ∀ d H', isT [d] = true → FlowAt H' f c (t + 1) → Frm f c H H' → Q (.str (S [d])) H'
theorem ok__law_sign (Y : Fx K mg) : FnOk P w K mg base CX0 2 Y.a__law_sign Y.fd__law_sign ["_law_flow_here"] (sp__law_sign K) := by
  refine Y.F__law_sign.ok sc__law_sign (fun vs H Q E h => ?_) (fun cdv A outer st H vs Q E hr h => ?_)
  · obtain ⟨f, c, t, rfl, _⟩ := h
    rfl
  · obtain ⟨f, c, t, rfl, hFl, ht, q⟩ := h
    refine ⟨_, b__law_sign Y (ok__law_draw Y) hr, ?_⟩
    show t__law_sign K _ _ [some (.ref f), none] H
    unfold t__law_sign
    rw [show (" !\"#$&'()*+,-./0123456789:;<=>?@ABCDEFGHIJKLMNOPQRSTUVWXYZ[\\]^_`" : Str) = S menu1 from rfl, show ("abcdefghijklmnopqrstuvwxyz{|}~" : Str) = S menu2 from rfl]
    walk_at "rd"
    refine ⟨f, c, 94, t, rfl, hFl, ht, by decide, by decide, fun r H1 r0 r1 hFl1 hF1 => ?_⟩
    refine ix_SS r0 (by show r < 94; exact r1) (by decide) fun d hd => ?_
    exact q d H1 (isT_get (by decide) hd) hFl1 hF1
def sp__law_text (K : PySem.W.Frag) : Sp := fun vs H Q _ => ∃ (f c : Addr) (n t : Nat), vs = [.ref f, .int n] ∧ FlowAt H f c t ∧ t + 8 < 2 ^ 60 ∧ n ≤ 1000 ∧ ∀ l H', l.length ≤ n → isT l = true → FlowAt H' f c (t + 8) → Frm f c H H' → Q (.str (S l)) H'
theorem ok__law_text (Y : Fx K mg) : FnOk P w K mg base CX0 3 Y.a__law_text Y.fd__law_text ["_law_flow_here", "_law_most"] (sp__law_text K) := by
  refine Y.F__law_text.ok sc__law_text (fun vs H Q E h => ?_) (fun cdv A outer st H vs Q E hr h => ?_)
  · obtain ⟨f, c, n, t, rfl, _⟩ := h
    rfl
  · obtain ⟨f, c, n, t, rfl, hFl, ht, hn, q⟩ := h
    refine ⟨_, b__law_text Y (ok__law_draw Y) (ok__law_sign Y) hr, ?_⟩
    show t__law_text K _ _ _ [some (.ref f), some (.int n), none, none, none, none, none, none] H
    unfold t__law_text
    walk_at "rd"
    refine ⟨by show 2 ≤ sizeLine; decide, fun p1 hp1 => ?_⟩
    walk_at "rd"
    refine ⟨f, c, 2, t, rfl, hFl.new hp1, by omega, by decide, by decide, fun r1 H1 r10 r11 hFl1 hF1 => ?_⟩
    obtain ⟨o1, o2⟩ := hFl.off hp1
    have hF01 := ((Frm.refl H).new hp1).trans hF1
    refine ix_rng (lo := 0) (hi := n) (lst_of (hF1 p1 _ o1 o2 upd_same)) (rng_cons (by split <;> omega) (by split <;> omega) (rng_cons (by omega) (by omega) rng_nil)) r10 r11 fun z z0 z1 => ?_
    walk_at "rd"
    refine ⟨f, c, z + 1, t + 1, rfl, hFl1, by omega, by omega, by omega, fun r2 H2 r20 r21 hFl2 hF2 => ?_⟩
    obtain ⟨lg, rfl⟩ : ∃ lg : Nat, r2 = (lg : Int) := ⟨r2.toNat, by omega⟩
    have hF02 := hF01.trans hF2
    clear hFl hFl1 hF1 hF2 hF01
    walk_at "rd"
    refine ⟨f, c, 3, t + 2, rfl, hFl2, by omega, by decide, by decide, fun r3 H3 r30 r31 hFl3 hF3 => ?_⟩
    have hF03 := hF02.trans hF3
    walk_at "rd"
    refine lcR1_mk (by omega) (by omega) (fun D i H' => FlowAt H' f c (t + 3 + i) ∧ Frm f c H H' ∧ ∃ cs : List (List Nat), H' D = some (.lst ((cs.map S).map V.str)) ∧ cs.length = i ∧ (∀ c ∈ cs, c.length = 1) ∧ ∀ c ∈ cs, isT c = true) (fun D hD => ⟨hFl3.new hD, hF03.new hD, [], upd_same, rfl, (by intro _ h; cases h), (by intro _ h; cases h)⟩) (fun D i H' hD hi hp => ?_) (fun D H4 hD hp => ?_)
    · obtain ⟨hFl', hF', cs, hc, hcl, hc1, hc2⟩ := hp
      refine ⟨rfl, ?_⟩
      walk_at "rd"
      refine ⟨f, c, t + 3 + i, rfl, hFl', by omega, fun d H5 hd hFl5 hF5 => ?_⟩
      obtain ⟨o1, o2⟩ := hFl3.off hD
      have hc5 := hF5 D _ o1 o2 hc
      refine ⟨_, hc5, ?_, hFl5.keep o1 o2, ?_, cs ++ [[d]], ?_, ?_, ?_, ?_⟩
      · rw [List.length_map, List.length_map]
        exact Nat.lt_of_le_of_lt (show cs.length ≤ 100 by omega) (by decide)
      · intro x u e1 e2 e3
        have e4 := (hF'.trans hF5) x u e1 e2 e3
        have e5 : x ≠ D := by
          rintro rfl
          have e6 := hF03 x u e1 e2 e3
          rw [hD] at e6
          cases e6
        rw [upd_ne e5]
        exact e4
      · rw [upd_same, List.map_append, List.map_append]
        rfl
      · rw [List.length_append, hcl]
        rfl
      · intro e he
        rcases List.mem_append.mp he with h | h
        · exact hc1 e h
        · rw [List.mem_singleton.mp h]; rfl
      · intro e he
        rcases List.mem_append.mp he with h | h
        · exact hc2 e h
        · rw [List.mem_singleton.mp h]; exact hd
    · obtain ⟨hFl', hF', cs, hc, hcl, hc1, hc2⟩ := hp
      have hFl4 := hFl'.le (show t + 3 + (1 + r3).toNat ≤ t + 6 by omega)
      walk_at "rd"
      have hfl := flat_len hc1
      refine jn_0 (lst_of hc) (by omega) ?_
      have hfT := isT_flat hc2
      generalize cs.flatten = wd at hfl hfT
      have hwd : wd.length ≤ 3 := by omega
      clear hfl hcl hc hc1 hc2
      obtain ⟨k1, hk1⟩ : ∃ k1 : Nat, (lg : Int) + 1 = (k1 : Int) := ⟨lg + 1, by omega⟩
      walk_at "rd"
      rw [hk1]
      refine m_SI (by omega) (by omega) (by rw [Int.toNat_natCast]; calc _ ≤ 3 * 1001 := Nat.mul_le_mul hwd (by omega)
            _ ≤ 1000000 := by decide) ?_
      rw [Int.toNat_natCast]
      have hrT : isT (List.replicate k1 wd).flatten = true := isT_flat fun c hc => by rw [(List.mem_replicate.mp hc).2]; exact hfT
      have hrl1 : (List.replicate k1 wd).flatten.length ≤ 1000000 := by
        rw [repl_len]
        calc _ ≤ 1001 * 3 := Nat.mul_le_mul (by omega) hwd
          _ ≤ 1000000 := by decide
      generalize (List.replicate k1 wd).flatten = rp at hrT hrl1
      walk_at "rd"
      rw [Int.toNat_natCast]
      have htl : (rp.take lg).length ≤ lg := by rw [List.length_take]; omega
      have htT : isT (rp.take lg) = true := isT_take lg hrT
      generalize rp.take lg = tx at htl htT
      refine ⟨f, c, (lg : Int) + 1, t + 6, by rw [hk1], hFl4, by omega, by omega, by omega, fun r5 H5 r50 r51 hFl5 hF5 => ?_⟩
      walk_at "rd"
      refine ⟨f, c, t + 7, rfl, hFl5, by omega, fun d H6 hd hFl6 hF6 => ?_⟩
      walk_at "rd"
      have hb : 0 ≤ (if (lg : Int) - r5 < 1 then (lg : Int) - r5 else 1) ∧ (if (lg : Int) - r5 < 1 then (lg : Int) - r5 else 1) ≤ (lg : Int) - r5 ∧ (if (lg : Int) - r5 < 1 then (lg : Int) - r5 else 1) ≤ 1 := by split <;> omega
      generalize (if (lg : Int) - r5 < 1 then (lg : Int) - r5 else 1) = e2 at hb
      obtain ⟨b0, b1, b2⟩ := hb
      refine m_SI (by omega) (by omega) (by rw [List.length_singleton]; omega) ?_
      rw [rep1]
      have q1 : (List.replicate e2.toNat d).length = e2.toNat := List.length_replicate
      have q2 : isT (List.replicate e2.toNat d) = true := rep1_isT hd
      generalize List.replicate e2.toNat d = rr at q1 q2
      walk_at "rd"
      refine q _ H6 ?_ ?_ hFl6 ((hF'.trans hF5).trans hF6)
      · rw [List.length_append, List.length_append, List.length_take, List.length_drop]
        omega
      · rw [isT_app, isT_app, isT_take _ htT, isT_drop _ htT, q2]
        rfl
end
end My

set_option Elab.async false
set_option linter.all false
set_option maxRecDepth 100000
set_option maxHeartbeats 1000000
namespace My
open PySem PySem.Spec PyProof.Rows L2
local macro_rules | `(tactic| walk_at "len") => `(tactic| first | assumption | omega | decide | (simp only [List.length_append, List.length_take, List.length_drop, List.length_cons, List.length_nil, List.length_replicate]; omega))
local macro_rules | `(tactic| walk_at "side") => `(tactic| first | assumption | exact Nat.zero_le _ | decide | omega)
local macro_rules | `(tactic| walk_at "rd1") => `(tactic| first
  | with_reducible refine s_seq ?_
  | with_reducible refine x_gsub ?_
  | with_reducible refine s_asg ?_
  | ((with_reducible refine s_gn ?_); dsimp only [List.set])
  | ((with_reducible refine x_var (v := ?rdv) ?rdhv ?_); (case rdhv => rfl))
  | with_reducible refine x_c ?_
  | with_reducible refine x_op ?_
  | with_reducible refine x_cons ?_
  | with_reducible refine x_nil ?_
  | with_reducible refine x_cb ?_
  | with_reducible refine x_call ?_
  | with_reducible refine s_if ?_
  | with_reducible refine s_ret ?_
  | with_reducible refine s_retN ?_
  | with_reducible refine s_next ?_
  | with_reducible refine s_brk ?_
  | with_reducible refine s_cont ?_
  | with_reducible refine s_drop ?_
  | with_reducible refine s_par ?_
  | with_reducible refine s_par3 ?_
  | ((with_reducible refine s_p2 ?_); dsimp only [List.set])
  | ((with_reducible refine s_p3 ?_); dsimp only [List.set])
  | with_reducible refine f_r1 ?_
  | with_reducible refine f_r2 ?_
  | with_reducible refine f_l ?_
  | with_reducible refine f_t ?_
  | with_reducible refine f_s ?_
  | with_reducible refine c_r1 ?_
  | with_reducible refine c_r2 ?_
  | with_reducible refine c_l ?_
  | with_reducible refine c_t ?_
  | with_reducible refine c_s ?_
  | with_reducible refine x_tst ?_
  | with_reducible refine x_tru ?_
  | with_reducible refine x_truB ?_
  | with_reducible refine x_bl2 ?_
  | with_reducible refine x_int ?_
  | with_reducible refine x_str ?_
  | with_reducible refine x_not ?_
  | with_reducible refine x_and ?_
  | with_reducible refine x_or ?_
  | with_reducible refine x_andV ?_
  | with_reducible refine x_orV ?_
  | with_reducible refine x_notV ?_
  | with_reducible refine x_if ?_
  | with_reducible refine x_yes ?_
  | with_reducible refine x_un ?_
  | with_reducible refine x_tup ?_
  | with_reducible refine x_lst ?_
  | with_reducible refine x_callK ?_
  | with_reducible refine x_callK0 ?_
  | with_reducible refine x_bm ?_
  | with_reducible refine x_bm0 ?_
  | with_reducible refine x_tyS ?_
  | with_reducible refine x_sl ?_
  | with_reducible refine x_nopart ?_
  | with_reducible refine x_part ?_
  | with_reducible refine x_fmt0 ?_
  | with_reducible refine x_gc ?_
  | with_reducible refine x_gz ?_
  | with_reducible refine x_ckw ?_
  | with_reducible refine x_fmt ?_
  | with_reducible refine x_chain ?_
  | with_reducible refine a_ii ?_
  | ((with_reducible refine sl_to ?rda ?rdb ?_); (case rda => walk_at "len"); (case rdb => walk_at "len"))
  | ((with_reducible refine sl_from ?rda ?rdb ?_); (case rda => walk_at "len"); (case rdb => walk_at "len"))
  | ((with_reducible refine sl_mid ?rda ?rdb ?rdc ?_); (case rda => walk_at "len"); (case rdb => walk_at "len"); (case rdc => walk_at "len"))
  | ((with_reducible refine a_SS ?rda ?_); (case rda => walk_at "len"))
  | ((with_reducible refine ln_S ?rda ?_); (case rda => walk_at "len"))
  | with_reducible refine e_SS ?_
  | with_reducible refine ne_SS ?_
  | with_reducible refine s_ii ?_
  | ((with_reducible refine md_ii ?rdc ?_); (case rdc => first | decide | assumption | omega))
  | with_reducible refine n_i ?_
  | with_reducible refine e_ii ?_
  | with_reducible refine e_bb ?_
  | with_reducible refine ne_ii ?_
  | with_reducible refine ne_bb ?_
  | with_reducible refine lt_ii ?_
  | with_reducible refine lt_ss ?_
  | with_reducible refine le_ii ?_
  | with_reducible refine gt_ii ?_
  | with_reducible refine gt_ss ?_
  | with_reducible refine ge_ii ?_
  | with_reducible refine e_ss ?_
  | with_reducible refine ne_ss ?_
  | with_reducible refine is_N ?_
  | with_reducible refine is_T ?_
  | with_reducible refine is_B ?_
  | with_reducible refine isn_N ?_
  | with_reducible refine isn_T ?_
  | with_reducible refine isn_B ?_
  | with_reducible refine in_s ?_
  | with_reducible refine nin_s ?_
  | with_reducible refine i_i ?_
  | with_reducible refine i_b ?_
  | with_reducible refine ab_i ?_
  | with_reducible refine mx_ii ?_
  | with_reducible refine mn_ii ?_
  | with_reducible refine ty_N ?_
  | with_reducible refine ty_B ?_
  | with_reducible refine ty_I ?_
  | with_reducible refine ty_S ?_
  | with_reducible refine ma_s ?_
  | with_reducible refine mp_s ?_
  | with_reducible refine mdg_s ?_
  | with_reducible refine mf_s ?_
  | with_reducible refine iteT ?_
  | with_reducible refine iteF ?_
  | with_reducible refine iteNt ?_
  | with_reducible refine iteNf ?_
  | with_reducible refine iteTd (by decide) ?_
  | with_reducible refine iteFd (by decide) ?_
  | with_reducible refine iteNd (by decide) ?_
  | with_reducible refine iteNdF (by decide) ?_
  | ((with_reducible refine iteFd ?rdn ?_); (case rdn => (intro rdz; cases rdz; done)))
  | ((with_reducible refine iteNdF ?rdn ?_); (case rdn => (intro rdz; cases rdz; done))))
local macro_rules | `(tactic| walk_at "rd") => `(tactic| (repeat walk_at "rd1"))
/-! figures with noughts ahead -/
theorem digit_code {n : Nat} : ∀ c ∈ (Nat.toDigits 10 n).map Char.toNat, 48 ≤ c ∧ c ≤ 57 := by
  intro c hc
  have h1 : n < 10 ^ (n + 1) := Nat.lt_trans (Nat.lt_succ_self n) (Nat.lt_pow_self (by decide))
  have h2 := figs_isD (n + 1) n
  rw [← pad_figs (n + 1) n h1 (Nat.succ_pos _)] at h2
  have h3 := List.all_eq_true.mp h2 c (List.mem_append_right _ hc)
  rw [Bool.and_eq_true, decide_eq_true_eq, decide_eq_true_eq] at h3
  exact h3
theorem zf_num (w n : Nat) : Txt.zfill (Str.ofString (toString (n : Int))) (w : Int) = S (pad w n) := by
  rw [SX.num_S, numL_eq]
  unfold Txt.zfill pad
  have hl : (S ((Nat.toDigits 10 n).map Char.toNat)).length = (Nat.toDigits 10 n).length := by rw [S_len, List.length_map]
  show (if (w : Int) ≤ (S ((Nat.toDigits 10 n).map Char.toNat)).length then S ((Nat.toDigits 10 n).map Char.toNat) else zfilled (S ((Nat.toDigits 10 n).map Char.toNat)) ((w : Int).toNat - (S ((Nat.toDigits 10 n).map Char.toNat)).length)) = _
  rw [hl]
  by_cases h : (w : Int) ≤ (Nat.toDigits 10 n).length
  · rw [if_pos h, show w - (Nat.toDigits 10 n).length = 0 by omega]
    rfl
  · rw [if_neg h, Int.toNat_natCast]
    have hd := digit_code (n := n)
    generalize (Nat.toDigits 10 n).map Char.toNat = l at hd
    generalize w - (Nat.toDigits 10 n).length = k
    have e : zfilled (S l) k = Builtin.Str.padded (S l) k 0 48 := by
      unfold zfilled
      have h0 : ∀ c, (S l).cps[0]? = some c → 48 ≤ c := fun c hc => by
        have : l[0]? = some c := by
          have e : (S l).cps = l.toArray := rfl
          rw [e] at hc
          simpa using hc
        exact (hd c (List.mem_of_getElem? this)).1
      split
      · rename_i h
        exact absurd (h0 43 h) (by decide)
      · rename_i h
        exact absurd (h0 45 h) (by decide)
      · rfl
    rw [e]
    show (⟨_⟩ : Str) = ⟨_⟩
    congr 1
    apply Array.ext'
    simp
section
variable {P : Program} {w : World} {K : PySem.W.Frag} {mg : Str → Option Value} {base : Heap}
def sp_entry_room (K : PySem.W.Frag) : Sp := fun vs H Q _ => ∃ n : Int, vs = [.int n] ∧ Q (.int ((n - 1) / 4 - 6)) H
theorem ok_entry_room (Y : Fx K mg) : FnOk P w K mg base CX0 1 Y.a_entry_room Y.fd_entry_room ["signs"] (sp_entry_room K) := by
  refine Y.F_entry_room.ok sc_entry_room (fun vs H Q E h => ?_) (fun cdv A outer s H vs Q E hr h => ?_)
  · obtain ⟨n, rfl, _⟩ := h
    rfl
  · obtain ⟨n, rfl, q⟩ := h
    refine ⟨_, b_entry_room Y hr, ?_⟩
    show t_entry_room K _ [some (.int n)] H
    unfold t_entry_room
    walk_at "rd"
    refine fd_ii ⟨by decide, by decide⟩ ?_
    walk_at "rd"
    exact q
end
end My

set_option Elab.async false
set_option linter.all false
set_option maxRecDepth 100000
set_option maxHeartbeats 1000000
namespace My
open PySem PySem.Spec PyProof.Rows L2
local macro_rules | `(tactic| walk_at "len") => `(tactic| first | assumption | omega | decide | (simp only [List.length_append, List.length_take, List.length_drop, List.length_cons, List.length_nil, List.length_replicate]; omega))
local macro_rules | `(tactic| walk_at "side") => `(tactic| first | assumption | exact Nat.zero_le _ | decide | omega)
local macro_rules | `(tactic| walk_at "rd1") => `(tactic| first
  | with_reducible refine s_seq ?_
  | with_reducible refine x_gsub ?_
  | with_reducible refine s_asg ?_
  | ((with_reducible refine s_gn ?_); dsimp only [List.set])
  | ((with_reducible refine x_var (v := ?rdv) ?rdhv ?_); (case rdhv => rfl))
  | with_reducible refine x_c ?_
  | with_reducible refine x_op ?_
  | with_reducible refine x_cons ?_
  | with_reducible refine x_nil ?_
  | with_reducible refine x_cb ?_
  | with_reducible refine x_call ?_
  | with_reducible refine s_if ?_
  | with_reducible refine s_ret ?_
  | with_reducible refine s_retN ?_
  | with_reducible refine s_next ?_
  | with_reducible refine s_brk ?_
  | with_reducible refine s_cont ?_
  | with_reducible refine s_drop ?_
  | with_reducible refine s_par ?_
  | with_reducible refine s_par3 ?_
  | ((with_reducible refine s_p2 ?_); dsimp only [List.set])
  | ((with_reducible refine s_p3 ?_); dsimp only [List.set])
  | with_reducible refine f_r1 ?_
  | with_reducible refine f_r2 ?_
  | with_reducible refine f_l ?_
  | with_reducible refine f_t ?_
  | with_reducible refine f_s ?_
  | with_reducible refine c_r1 ?_
  | with_reducible refine c_r2 ?_
  | with_reducible refine c_l ?_
  | with_reducible refine c_t ?_
  | with_reducible refine c_s ?_
  | with_reducible refine x_tst ?_
  | with_reducible refine x_tru ?_
  | with_reducible refine x_truB ?_
  | with_reducible refine x_bl2 ?_
  | with_reducible refine x_int ?_
  | with_reducible refine x_str ?_
  | with_reducible refine x_not ?_
  | with_reducible refine x_and ?_
  | with_reducible refine x_or ?_
  | with_reducible refine x_andV ?_
  | with_reducible refine x_orV ?_
  | with_reducible refine x_notV ?_
  | with_reducible refine x_if ?_
  | with_reducible refine x_yes ?_
  | with_reducible refine x_un ?_
  | with_reducible refine x_tup ?_
  | with_reducible refine x_lst ?_
  | with_reducible refine x_callK ?_
  | with_reducible refine x_callK0 ?_
  | with_reducible refine x_bm ?_
  | with_reducible refine x_bm0 ?_
  | with_reducible refine x_tyS ?_
  | with_reducible refine x_sl ?_
  | with_reducible refine x_nopart ?_
  | with_reducible refine x_part ?_
  | with_reducible refine x_fmt0 ?_
  | with_reducible refine x_gc ?_
  | with_reducible refine x_gz ?_
  | with_reducible refine x_ckw ?_
  | with_reducible refine x_fmt ?_
  | with_reducible refine x_chain ?_
  | with_reducible refine a_ii ?_
  | ((with_reducible refine sl_to ?rda ?rdb ?_); (case rda => walk_at "len"); (case rdb => walk_at "len"))
  | ((with_reducible refine sl_from ?rda ?rdb ?_); (case rda => walk_at "len"); (case rdb => walk_at "len"))
  | ((with_reducible refine sl_mid ?rda ?rdb ?rdc ?_); (case rda => walk_at "len"); (case rdb => walk_at "len"); (case rdc => walk_at "len"))
  | ((with_reducible refine a_SS ?rda ?_); (case rda => walk_at "len"))
  | ((with_reducible refine ln_S ?rda ?_); (case rda => walk_at "len"))
  | with_reducible refine e_SS ?_
  | with_reducible refine ne_SS ?_
  | with_reducible refine s_ii ?_
  | ((with_reducible refine md_ii ?rdc ?_); (case rdc => first | decide | assumption | omega))
  | with_reducible refine n_i ?_
  | with_reducible refine e_ii ?_
  | with_reducible refine e_bb ?_
  | with_reducible refine ne_ii ?_
  | with_reducible refine ne_bb ?_
  | with_reducible refine lt_ii ?_
  | with_reducible refine lt_ss ?_
  | with_reducible refine le_ii ?_
  | with_reducible refine gt_ii ?_
  | with_reducible refine gt_ss ?_
  | with_reducible refine ge_ii ?_
  | with_reducible refine e_ss ?_
  | with_reducible refine ne_ss ?_
  | with_reducible refine is_N ?_
  | with_reducible refine is_T ?_
  | with_reducible refine is_B ?_
  | with_reducible refine isn_N ?_
  | with_reducible refine isn_T ?_
  | with_reducible refine isn_B ?_
  | with_reducible refine in_s ?_
  | with_reducible refine nin_s ?_
  | with_reducible refine i_i ?_
  | with_reducible refine i_b ?_
  | with_reducible refine ab_i ?_
  | with_reducible refine mx_ii ?_
  | with_reducible refine mn_ii ?_
  | with_reducible refine ty_N ?_
  | with_reducible refine ty_B ?_
  | with_reducible refine ty_I ?_
  | with_reducible refine ty_S ?_
  | with_reducible refine ma_s ?_
  | with_reducible refine mp_s ?_
  | with_reducible refine mdg_s ?_
  | with_reducible refine mf_s ?_
  | with_reducible refine iteT ?_
  | with_reducible refine iteF ?_
  | with_reducible refine iteNt ?_
  | with_reducible refine iteNf ?_
  | with_reducible refine iteTd (by decide) ?_
  | with_reducible refine iteFd (by decide) ?_
  | with_reducible refine iteNd (by decide) ?_
  | with_reducible refine iteNdF (by decide) ?_
  | ((with_reducible refine iteFd ?rdn ?_); (case rdn => (intro rdz; cases rdz; done)))
  | ((with_reducible refine iteNdF ?rdn ?_); (case rdn => (intro rdz; cases rdz; done))))
local macro_rules | `(tactic| walk_at "rd") => `(tactic| (repeat walk_at "rd1"))
section
variable {P : Program} {w : World} {K : PySem.W.Frag} {mg : Str → Option Value} {base : Heap}
theorem log_small {n : Nat} (h : n < 1000000) : ((n : Int).natAbs).log2 < 1920 := by
  rw [Int.natAbs_natCast]
  by_cases h0 : n = 0
  · subst h0; decide
  · exact Nat.lt_of_lt_of_le ((Nat.log2_lt h0).mpr (show n < 2 ^ 20 by omega)) (by decide)
def tv (ls : List (List Nat)) : List V := ls.map fun l => V.str (S l)
theorem tv_len (ls : List (List Nat)) : (tv ls).length = ls.length := List.length_map ..
theorem tv_app (a b : List (List Nat)) : tv (a ++ b) = tv a ++ tv b := List.map_append ..
theorem tv_eq (ls : List (List Nat)) : tv ls = (ls.map S).map V.str := by
  unfold tv
  rw [List.map_map]
  rfl
theorem take_snoc {α : Type} {xs : List α} {i : Nat} {x : α} (h : xs[i]? = some x) : xs.take (i + 1) = xs.take i ++ [x] := by
  rw [List.take_add_one, h]
  rfl
theorem pad_le {w n : Nat} (h : n < 1000000) : (pad w n).length ≤ w + 6 := by
  unfold pad
  have h1 := toDigits_len10 (w := 6) (n := n) (by omega) (by decide)
  rw [List.length_append, List.length_replicate, List.length_map]
  omega
/-! nodes -/
inductive Nd where
  | leaf (es : List (List Nat × List Nat))
  | inner (ms : List (List Nat)) (ks : List Nat)
def leafL : List Nat := [108, 101, 97, 102]
def innerL : List Nat := [105, 110, 110, 101, 114]
def enD (e : List Nat × List Nat) : PyData := .tuple [.str (S e.1), .str (S e.2)]
def ndD : Nd → PyData
  | .leaf es => .tuple [.str (S leafL), .tuple (es.map enD)]
  | .inner ms ks => .tuple [.str (S innerL), .tuple (ms.map fun m => .str (S m)), .tuple (ks.map fun k : Nat => .int k)]
def enT (e : List Nat × List Nat) : List Nat := pad 3 e.1.length ++ pad 3 e.2.length ++ e.1 ++ e.2
def mkT (m : List Nat) : List Nat := pad 3 m.length ++ m
def ndT : Nd → List Nat
  | .leaf es => [76] ++ (es.map enT).flatten
  | .inner ms ks => [73] ++ TL.numL ks.length ++ (ks.map (pad 4)).flatten ++ (ms.map mkT).flatten
def Lg (l : List Nat) : Prop := isT l = true ∧ l.length ≤ 1000
def NdOk : Nd → Prop
  | .leaf es => es.length ≤ 50 ∧ ∀ e ∈ es, Lg e.1 ∧ Lg e.2
  | .inner ms ks => ms.length ≤ 50 ∧ ks.length ≤ 50 ∧ (∀ m ∈ ms, Lg m) ∧ ∀ k ∈ ks, k < 1000000
theorem flat_le {n : Nat} : ∀ {cs : List (List Nat)}, (∀ c ∈ cs, c.length ≤ n) → cs.flatten.length ≤ n * cs.length
  | [], _ => Nat.zero_le _
  | c :: cs, h => by
    rw [List.flatten_cons, List.length_append, List.length_cons, Nat.mul_add, Nat.mul_one]
    have h1 := h c (List.mem_cons_self ..)
    have h2 := flat_le fun d hd => h d (List.mem_cons_of_mem _ hd)
    omega
theorem enT_le {e : List Nat × List Nat} (h : Lg e.1 ∧ Lg e.2) : (enT e).length ≤ 2100 := by
  unfold enT
  have h1 := pad_le (w := 3) (n := e.1.length) (by have := h.1.2; omega)
  have h2 := pad_le (w := 3) (n := e.2.length) (by have := h.2.2; omega)
  have h3 := h.1.2
  have h4 := h.2.2
  simp only [List.length_append]
  omega
theorem mkT_le {m : List Nat} (h : Lg m) : (mkT m).length ≤ 1100 := by
  unfold mkT
  have h1 := pad_le (w := 3) (n := m.length) (by have := h.2; omega)
  have h2 := h.2
  simp only [List.length_append]
  omega
theorem sz {k : Nat} (h : k ≤ 200000) : k ≤ sizeLine := Nat.le_trans h (by decide)
theorem js_en {σ : L2.St} {H : Hp} {Q : Str → Hp → Prop} {i j : Nat} {e : List Nat × List Nat} (hi : σ[i]? = some (some (.str (S e.1)))) (hj : σ[j]? = some (some (.str (S e.2)))) (h : Lg e.1 ∧ Lg e.2) (q : Q (S (enT e)) H) :
    tJs [tFmt0 3 (tCB (rLEN K) (tCons (tVar i) tNil)), tFmt0 3 (tCB (rLEN K) (tCons (tVar j) tNil)), tFmt (tVar i), tFmt (tVar j)] Str.empty σ H Q := by
  have l1 := h.1.2
  have l2 := h.2.2
  have p1 := pad_le (w := 3) (n := e.1.length) (by omega)
  have p2 := pad_le (w := 3) (n := e.2.length) (by omega)
  refine x_js ?_
  walk_at "rd"
  refine x_var hi ?_
  walk_at "rd"
  refine ⟨by omega, log_small (by omega), ?_⟩
  rw [zpad_S]
  walk_at "rd"
  refine ⟨by rw [show Str.empty = S [] from rfl, S_app, S_len]; exact sz (by rw [List.nil_append]; omega), ?_⟩
  rw [show Str.empty = S [] from rfl, S_app]
  refine x_js ?_
  walk_at "rd"
  refine x_var hj ?_
  walk_at "rd"
  refine ⟨by omega, log_small (by omega), ?_⟩
  rw [zpad_S]
  walk_at "rd"
  refine ⟨by rw [S_app, S_len]; exact sz (by rw [List.nil_append, List.length_append]; omega), ?_⟩
  rw [S_app]
  refine x_js ?_
  walk_at "rd"
  refine x_var hi ?_
  refine .inl ⟨_, rfl, sz (by rw [S_len]; omega), ?_⟩
  walk_at "rd"
  refine ⟨by rw [S_app, S_len]; exact sz (by rw [List.nil_append, List.length_append, List.length_append]; omega), ?_⟩
  rw [S_app]
  refine x_js ?_
  walk_at "rd"
  refine x_var hj ?_
  refine .inl ⟨_, rfl, sz (by rw [S_len]; omega), ?_⟩
  walk_at "rd"
  refine ⟨by rw [S_app, S_len]; exact sz (by rw [List.nil_append, List.length_append, List.length_append, List.length_append]; omega), ?_⟩
  rw [S_app]
  refine x_js0 ?_
  rw [List.nil_append]
  exact q
theorem js_mk {σ : L2.St} {H : Hp} {Q : Str → Hp → Prop} {i : Nat} {m : List Nat} (hi : σ[i]? = some (some (.str (S m)))) (h : Lg m) (q : Q (S (mkT m)) H) :
    tJs [tFmt0 3 (tCB (rLEN K) (tCons (tVar i) tNil)), tFmt (tVar i)] Str.empty σ H Q := by
  have l1 := h.2
  have p1 := pad_le (w := 3) (n := m.length) (by omega)
  refine x_js ?_
  walk_at "rd"
  refine x_var hi ?_
  walk_at "rd"
  refine ⟨by omega, log_small (by omega), ?_⟩
  rw [zpad_S]
  walk_at "rd"
  refine ⟨by rw [show Str.empty = S [] from rfl, S_app, S_len]; exact sz (by rw [List.nil_append]; omega), ?_⟩
  rw [show Str.empty = S [] from rfl, S_app]
  refine x_js ?_
  walk_at "rd"
  refine x_var hi ?_
  refine .inl ⟨_, rfl, sz (by rw [S_len]; omega), ?_⟩
  walk_at "rd"
  refine ⟨by rw [S_app, S_len]; exact sz (by rw [List.nil_append, List.length_append]; omega), ?_⟩
  rw [S_app]
  refine x_js0 ?_
  rw [List.nil_append]
  exact q
end
end My

set_option Elab.async false
set_option linter.all false
set_option maxRecDepth 100000
set_option maxHeartbeats 1000000
namespace My
open PySem PySem.Spec PyProof.Rows L2
local macro_rules | `(tactic| walk_at "len") => `(tactic| first | assumption | omega | decide | (simp only [List.length_append, List.length_take, List.length_drop, List.length_cons, List.length_nil, List.length_replicate]; omega))
local macro_rules | `(tactic| walk_at "side") => `(tactic| first | assumption | exact Nat.zero_le _ | decide | omega)
local macro_rules | `(tactic| walk_at "rd1") => `(tactic| first
  | with_reducible refine s_seq ?_
  | with_reducible refine x_gsub ?_
  | with_reducible refine s_asg ?_
  | ((with_reducible refine s_gn ?_); dsimp only [List.set])
  | ((with_reducible refine x_var (v := ?rdv) ?rdhv ?_); (case rdhv => rfl))
  | with_reducible refine x_c ?_
  | with_reducible refine x_op ?_
  | with_reducible refine x_cons ?_
  | with_reducible refine x_nil ?_
  | with_reducible refine x_cb ?_
  | with_reducible refine x_call ?_
  | with_reducible refine s_if ?_
  | with_reducible refine s_ret ?_
  | with_reducible refine s_retN ?_
  | with_reducible refine s_next ?_
  | with_reducible refine s_brk ?_
  | with_reducible refine s_cont ?_
  | with_reducible refine s_drop ?_
  | with_reducible refine s_par ?_
  | with_reducible refine s_par3 ?_
  | ((with_reducible refine s_p2 ?_); dsimp only [List.set])
  | ((with_reducible refine s_p3 ?_); dsimp only [List.set])
  | with_reducible refine f_r1 ?_
  | with_reducible refine f_r2 ?_
  | with_reducible refine f_l ?_
  | with_reducible refine f_t ?_
  | with_reducible refine f_s ?_
  | with_reducible refine c_r1 ?_
  | with_reducible refine c_r2 ?_
  | with_reducible refine c_l ?_
  | with_reducible refine c_t ?_
  | with_reducible refine c_s ?_
  | with_reducible refine x_tst ?_
  | with_reducible refine x_tru ?_
  | with_reducible refine x_truB ?_
  | with_reducible refine x_bl2 ?_
  | with_reducible refine x_int ?_
  | with_reducible refine x_str ?_
  | with_reducible refine x_not ?_
  | with_reducible refine x_and ?_
  | with_reducible refine x_or ?_
  | with_reducible refine x_andV ?_
  | with_reducible refine x_orV ?_
  | with_reducible refine x_notV ?_
  | with_reducible refine x_if ?_
  | with_reducible refine x_yes ?_
  | with_reducible refine x_un ?_
  | with_reducible refine x_tup ?_
  | with_reducible refine x_lst ?_
  | with_reducible refine x_callK ?_
  | with_reducible refine x_callK0 ?_
  | with_reducible refine x_bm ?_
  | with_reducible refine x_bm0 ?_
  | with_reducible refine x_tyS ?_
  | with_reducible refine x_sl ?_
  | with_reducible refine x_nopart ?_
  | with_reducible refine x_part ?_
  | with_reducible refine x_fmt0 ?_
  | with_reducible refine x_gc ?_
  | with_reducible refine x_gz ?_
  | with_reducible refine x_ckw ?_
  | with_reducible refine x_fmt ?_
  | with_reducible refine x_chain ?_
  | with_reducible refine a_ii ?_
  | ((with_reducible refine sl_to ?rda ?rdb ?_); (case rda => walk_at "len"); (case rdb => walk_at "len"))
  | ((with_reducible refine sl_from ?rda ?rdb ?_); (case rda => walk_at "len"); (case rdb => walk_at "len"))
  | ((with_reducible refine sl_mid ?rda ?rdb ?rdc ?_); (case rda => walk_at "len"); (case rdb => walk_at "len"); (case rdc => walk_at "len"))
  | ((with_reducible refine a_SS ?rda ?_); (case rda => walk_at "len"))
  | ((with_reducible refine ln_S ?rda ?_); (case rda => walk_at "len"))
  | with_reducible refine e_SS ?_
  | with_reducible refine ne_SS ?_
  | with_reducible refine s_ii ?_
  | ((with_reducible refine md_ii ?rdc ?_); (case rdc => first | decide | assumption | omega))
  | with_reducible refine n_i ?_
  | with_reducible refine e_ii ?_
  | with_reducible refine e_bb ?_
  | with_reducible refine ne_ii ?_
  | with_reducible refine ne_bb ?_
  | with_reducible refine lt_ii ?_
  | with_reducible refine lt_ss ?_
  | with_reducible refine le_ii ?_
  | with_reducible refine gt_ii ?_
  | with_reducible refine gt_ss ?_
  | with_reducible refine ge_ii ?_
  | with_reducible refine e_ss ?_
  | with_reducible refine ne_ss ?_
  | with_reducible refine is_N ?_
  | with_reducible refine is_T ?_
  | with_reducible refine is_B ?_
  | with_reducible refine isn_N ?_
  | with_reducible refine isn_T ?_
  | with_reducible refine isn_B ?_
  | with_reducible refine in_s ?_
  | with_reducible refine nin_s ?_
  | with_reducible refine i_i ?_
  | with_reducible refine i_b ?_
  | with_reducible refine ab_i ?_
  | with_reducible refine mx_ii ?_
  | with_reducible refine mn_ii ?_
  | with_reducible refine ty_N ?_
  | with_reducible refine ty_B ?_
  | with_reducible refine ty_I ?_
  | with_reducible refine ty_S ?_
  | with_reducible refine ma_s ?_
  | with_reducible refine mp_s ?_
  | with_reducible refine mdg_s ?_
  | with_reducible refine mf_s ?_
  | with_reducible refine iteT ?_
  | with_reducible refine iteF ?_
  | with_reducible refine iteNt ?_
  | with_reducible refine iteNf ?_
  | with_reducible refine iteTd (by decide) ?_
  | with_reducible refine iteFd (by decide) ?_
  | with_reducible refine iteNd (by decide) ?_
  | with_reducible refine iteNdF (by decide) ?_
  | ((with_reducible refine iteFd ?rdn ?_); (case rdn => (intro rdz; cases rdz; done)))
  | ((with_reducible refine iteNdF ?rdn ?_); (case rdn => (intro rdz; cases rdz; done))))
local macro_rules | `(tactic| walk_at "rd") => `(tactic| (repeat walk_at "rd1"))
section
variable {P : Program} {w : World} {K : PySem.W.Frag} {mg : Str → Option Value} {base : Heap}
theorem dp_tup2 {H : Hp} {x : V} {a b : PyData} (h : Dp K H x (.tuple [a, b])) : ∃ p u v, x = .ref p ∧ SqT K H p [u, v] ∧ Dp K H u a ∧ Dp K H v b := by
  cases h with
  | tup hs ha =>
    cases ha with
    | cons h1 ha =>
      cases ha with
      | cons h2 ha =>
        cases ha
        exact ⟨_, _, _, rfl, hs, h1, h2⟩
theorem dp_tup3 {H : Hp} {x : V} {a b c : PyData} (h : Dp K H x (.tuple [a, b, c])) : ∃ p u v z, x = .ref p ∧ SqT K H p [u, v, z] ∧ Dp K H u a ∧ Dp K H v b ∧ Dp K H z c := by
  cases h with
  | tup hs ha =>
    cases ha with
    | cons h1 ha =>
      cases ha with
      | cons h2 ha =>
        cases ha with
        | cons h3 ha =>
          cases ha
          exact ⟨_, _, _, _, rfl, hs, h1, h2, h3⟩
theorem dp_str' {H : Hp} {x : V} {z : Str} (h : Dp K H x (.str z)) : x = .str z := by
  cases h
  rfl
theorem dp_int' {H : Hp} {x : V} {z : Int} (h : Dp K H x (.int z)) : x = .int z := by
  cases h
  rfl
theorem dp_tup' {H : Hp} {x : V} {ds : List PyData} (h : Dp K H x (.tuple ds)) : ∃ p us, x = .ref p ∧ SqT K H p us ∧ DpAll K H us ds := by
  cases h with
  | tup hs ha => exact ⟨_, _, rfl, hs, ha⟩
theorem all_at {α : Type} {F : α → PyData} {H : Hp} {us : List V} {xs : List α} (h : DpAll K H us (xs.map F)) {i : Nat} {x : V} (hx : us[i]? = some x) : ∃ a, xs[i]? = some a ∧ Dp K H x (F a) := by
  have hl := dpAll_len h
  rw [List.length_map] at hl
  have hi : i < xs.length := by rw [← hl]; exact (List.getElem?_eq_some_iff.mp hx).1
  obtain ⟨v, hv, hd⟩ := dpAll_get h (i := i) (by rw [List.length_map]; exact hi)
  rw [hx] at hv
  cases hv
  rw [List.getElem_map] at hd
  exact ⟨xs[i], List.getElem?_eq_getElem hi, hd⟩
/-! node_text -/
def sp_node_text (K : PySem.W.Frag) : Sp := fun vs H Q _ => ∃ (x : V) (nd : Nd), vs = [x] ∧ Dp K H x (ndD nd) ∧ NdOk nd ∧ ∀ H', Same H H' → Q (.str (S (ndT nd))) H'
theorem ok_node_text (Y : Fx K mg) : FnOk P w K mg base CX0 1 Y.a_node_text Y.fd_node_text ["node"] (sp_node_text K) := by
  refine Y.F_node_text.ok sc_node_text (fun vs H Q E h => ?_) (fun cdv A outer s H vs Q E hr h => ?_)
  · obtain ⟨x, nd, rfl, _⟩ := h
    rfl
  · obtain ⟨x, nd, rfl, hx, hok, q⟩ := h
    refine ⟨_, b_node_text Y hr, ?_⟩
    show t_node_text K _ [some x, none, none, none, none, none, none, none] H
    unfold t_node_text
    rw [show ("leaf" : Str) = S leafL from rfl, show ("L" : Str) = S [76] from rfl, show ("I" : Str) = S [73] from rfl]
    cases nd with
    | leaf es =>
      obtain ⟨hel, hes⟩ := hok
      obtain ⟨p, u, v, rfl, hp, hu, hv⟩ := dp_tup2 hx
      have hu' := dp_str' hu
      subst hu'
      obtain ⟨p2, us, rfl, hp2, hus⟩ := dp_tup' hv
      have hlu := dpAll_len hus
      rw [List.length_map] at hlu
      walk_at "rd"
      refine ix_T hp (by rfl) ?_
      walk_at "rd"
      refine ix_T hp (by rfl) ?_
      refine lcT_mk hp2 (fun D i H' => Same H H' ∧ H' D = some (.lst (tv ((es.take i).map enT)))) (fun D hD => ⟨same_upd hD, upd_same⟩) (fun D i H' hD _ hP => same_sqt hP.1 hp2) (fun D i x H' hD hxi hP => ?_) (fun D H' hD hP => ?_)
      · obtain ⟨hS, hH⟩ := hP
        obtain ⟨e, he, hde⟩ := all_at hus hxi
        have hi := (List.getElem?_eq_some_iff.mp he).1
        have hle := hes e (List.mem_of_getElem? he)
        obtain ⟨t, a, b, rfl, ht, ha, hb⟩ := dp_tup2 hde
        have ha' := dp_str' ha
        have hb' := dp_str' hb
        subst ha' hb'
        refine gt_T (same_sqt hS ht) rfl ?_
        refine x_gc ?_
        refine s_gn ?_
        refine x_gc ?_
        refine s_gn ?_
        refine x_gz ?_
        refine ⟨rfl, ?_⟩
        show tYes [some (.ref p), some (.str (S e.1)), some (.str (S e.2)), none, none, none, none, none] H' _
        walk_at "rd"
        show tJs _ _ _ _ _
        refine js_en (i := 1) (j := 2) (e := e) ?_ ?_ hle ?_
        · rfl
        · rfl
        refine ⟨_, hH, Nat.lt_of_le_of_lt (show _ ≤ 50 by rw [tv_len, List.length_map, List.length_take]; omega) (by decide), same_mut hS hD, ?_⟩
        rw [upd_same, take_snoc he, List.map_append, tv_app]
        rfl
      · obtain ⟨hS, hH⟩ := hP
        rw [hlu, List.take_of_length_le (Nat.le_refl _)] at hH
        walk_at "rd"
        have hfl : (es.map enT).flatten.length ≤ 2100 * 50 := by
          refine Nat.le_trans (flat_le (n := 2100) fun c hc => ?_) (Nat.mul_le_mul (Nat.le_refl _) (by rw [List.length_map]; exact hel))
          obtain ⟨e, he, rfl⟩ := List.mem_map.mp hc
          exact enT_le (hes e he)
        refine jn_0 (lst_of (by rw [← tv_eq]; exact hH)) (by omega) ?_
        refine a_SS (by rw [List.length_singleton]; omega) ?_
        exact q H' hS
    | inner ms ks =>
      obtain ⟨hml, hkl, hms, hks⟩ := hok
      obtain ⟨p, u, v, z, rfl, hp, hu, hv, hz⟩ := dp_tup3 hx
      have hu' := dp_str' hu
      subst hu'
      obtain ⟨pm, um, rfl, hpm, hum⟩ := dp_tup' hv
      obtain ⟨pk, uk, rfl, hpk, huk⟩ := dp_tup' hz
      have hlm := dpAll_len hum
      have hlk := dpAll_len huk
      rw [List.length_map] at hlm hlk
      walk_at "rd"
      refine ix_T hp (by rfl) ?_
      walk_at "rd"
      refine ix_T hp (by rfl) ?_
      walk_at "rd"
      refine ix_T hp (by rfl) ?_
      walk_at "rd"
      refine lcT_mk hpk (fun D i H' => Same H H' ∧ H' D = some (.lst (tv ((ks.take i).map (pad 4))))) (fun D hD => ⟨same_upd hD, upd_same⟩) (fun D i H' hD _ hP => same_sqt hP.1 hpk) (fun D i x H' hD hxi hP => ?_) (fun D H' hD hP => ?_)
      · obtain ⟨hS, hH⟩ := hP
        obtain ⟨k, hk, hdk⟩ := all_at huk hxi
        have hi := (List.getElem?_eq_some_iff.mp hk).1
        have hk6 := hks k (List.mem_of_getElem? hk)
        have hk' := dp_int' hdk
        subst hk'
        refine ⟨rfl, ?_⟩
        walk_at "rd"
        refine ⟨by omega, log_small hk6, ?_⟩
        rw [zpad_S]
        refine ⟨_, hH, Nat.lt_of_le_of_lt (show _ ≤ 50 by rw [tv_len, List.length_map, List.length_take]; omega) (by decide), same_mut hS hD, ?_⟩
        rw [upd_same, take_snoc hk, List.map_append, tv_app]
        rfl
      · obtain ⟨hS, hH⟩ := hP
        rw [hlk, List.take_of_length_le (Nat.le_refl _)] at hH
        walk_at "rd"
        have hfl : (ks.map (pad 4)).flatten.length ≤ 10 * 50 := by
          refine Nat.le_trans (flat_le (n := 10) fun c hc => ?_) (Nat.mul_le_mul (Nat.le_refl _) (by rw [List.length_map]; exact hkl))
          obtain ⟨e, he, rfl⟩ := List.mem_map.mp hc
          exact pad_le (w := 4) (hks e he)
        refine jn_0 (lst_of (by rw [← tv_eq]; exact hH)) (by omega) ?_
        walk_at "rd"
        refine ln_t (same_sqt hS hpk) ?_
        rw [hlk]
        walk_at "rd"
        refine ⟨(ks.length : Int), rfl, log_small (by omega), ?_⟩
        rw [show (toString (ks.length : Int) : Str) = S (TL.numL ks.length) from SX.num_S ks.length]
        have hnl : (TL.numL ks.length).length ≤ 10 := by
          rw [numL_eq, List.length_map]
          exact Nat.le_trans (toDigits_len10 (w := 6) (by omega) (by decide)) (by decide)
        walk_at "rd"
        refine lcT_mk (same_sqt hS hpm) (fun E i H2 => Same H' H2 ∧ H2 E = some (.lst (tv ((ms.take i).map mkT)))) (fun E hE => ⟨same_upd hE, upd_same⟩) (fun E i H2 hE _ hP => same_sqt (hS.trans hP.1) hpm) (fun E i x H2 hE hxi hP => ?_) (fun E H2 hE hP => ?_)
        · obtain ⟨hS2, hH2⟩ := hP
          obtain ⟨m, hm, hdm⟩ := all_at hum hxi
          have hi := (List.getElem?_eq_some_iff.mp hm).1
          have hm' := dp_str' hdm
          subst hm'
          refine ⟨rfl, ?_⟩
          walk_at "rd"
          show tJs _ _ _ _ _
          refine js_mk (i := 7) (m := m) ?_ (hms m (List.mem_of_getElem? hm)) ?_
          · rfl
          refine ⟨_, hH2, Nat.lt_of_le_of_lt (show _ ≤ 50 by rw [tv_len, List.length_map, List.length_take]; omega) (by decide), same_mut hS2 hE, ?_⟩
          rw [upd_same, take_snoc hm, List.map_append, tv_app]
          rfl
        · obtain ⟨hS2, hH2⟩ := hP
          rw [hlm, List.take_of_length_le (Nat.le_refl _)] at hH2
          walk_at "rd"
          have hfm : (ms.map mkT).flatten.length ≤ 1100 * 50 := by
            refine Nat.le_trans (flat_le (n := 1100) fun c hc => ?_) (Nat.mul_le_mul (Nat.le_refl _) (by rw [List.length_map]; exact hml))
            obtain ⟨e, he, rfl⟩ := List.mem_map.mp hc
            exact mkT_le (hms e he)
          refine jn_0 (lst_of (by rw [← tv_eq]; exact hH2)) (by omega) ?_
          refine a_SS (by simp only [List.length_append, List.length_singleton]; omega) ?_
          exact q H2 (hS.trans hS2)
end
end My

set_option Elab.async false
set_option linter.all false
set_option maxRecDepth 100000
set_option maxHeartbeats 1000000
namespace My
open PySem PySem.Spec PyProof.Rows L2
local macro_rules | `(tactic| walk_at "len") => `(tactic| first | assumption | omega | decide | (simp only [List.length_append, List.length_take, List.length_drop, List.length_cons, List.length_nil, List.length_replicate]; omega))
local macro_rules | `(tactic| walk_at "side") => `(tactic| first | assumption | exact Nat.zero_le _ | decide | omega)
local macro_rules | `(tactic| walk_at "rd1") => `(tactic| first
  | with_reducible refine s_seq ?_
  | with_reducible refine x_gsub ?_
  | with_reducible refine s_asg ?_
  | ((with_reducible refine s_gn ?_); dsimp only [List.set])
  | ((with_reducible refine x_var (v := ?rdv) ?rdhv ?_); (case rdhv => rfl))
  | with_reducible refine x_c ?_
  | with_reducible refine x_op ?_
  | with_reducible refine x_cons ?_
  | with_reducible refine x_nil ?_
  | with_reducible refine x_cb ?_
  | with_reducible refine x_call ?_
  | with_reducible refine s_if ?_
  | with_reducible refine s_ret ?_
  | with_reducible refine s_retN ?_
  | with_reducible refine s_next ?_
  | with_reducible refine s_brk ?_
  | with_reducible refine s_cont ?_
  | with_reducible refine s_drop ?_
  | with_reducible refine s_par ?_
  | with_reducible refine s_par3 ?_
  | ((with_reducible refine s_p2 ?_); dsimp only [List.set])
  | ((with_reducible refine s_p3 ?_); dsimp only [List.set])
  | with_reducible refine f_r1 ?_
  | with_reducible refine f_r2 ?_
  | with_reducible refine f_l ?_
  | with_reducible refine f_t ?_
  | with_reducible refine f_s ?_
  | with_reducible refine c_r1 ?_
  | with_reducible refine c_r2 ?_
  | with_reducible refine c_l ?_
  | with_reducible refine c_t ?_
  | with_reducible refine c_s ?_
  | with_reducible refine x_tst ?_
  | with_reducible refine x_tru ?_
  | with_reducible refine x_truB ?_
  | with_reducible refine x_bl2 ?_
  | with_reducible refine x_int ?_
  | with_reducible refine x_str ?_
  | with_reducible refine x_not ?_
  | with_reducible refine x_and ?_
  | with_reducible refine x_or ?_
  | with_reducible refine x_andV ?_
  | with_reducible refine x_orV ?_
  | with_reducible refine x_notV ?_
  | with_reducible refine x_if ?_
  | with_reducible refine x_yes ?_
  | with_reducible refine x_un ?_
  | with_reducible refine x_tup ?_
  | with_reducible refine x_lst ?_
  | with_reducible refine x_callK ?_
  | with_reducible refine x_callK0 ?_
  | with_reducible refine x_bm ?_
  | with_reducible refine x_bm0 ?_
  | with_reducible refine x_tyS ?_
  | with_reducible refine x_sl ?_
  | with_reducible refine x_nopart ?_
  | with_reducible refine x_part ?_
  | with_reducible refine x_fmt0 ?_
  | with_reducible refine x_gc ?_
  | with_reducible refine x_gz ?_
  | with_reducible refine x_ckw ?_
  | with_reducible refine x_fmt ?_
  | with_reducible refine x_chain ?_
  | with_reducible refine a_ii ?_
  | ((with_reducible refine sl_to ?rda ?rdb ?_); (case rda => walk_at "len"); (case rdb => walk_at "len"))
  | ((with_reducible refine sl_from ?rda ?rdb ?_); (case rda => walk_at "len"); (case rdb => walk_at "len"))
  | ((with_reducible refine sl_mid ?rda ?rdb ?rdc ?_); (case rda => walk_at "len"); (case rdb => walk_at "len"); (case rdc => walk_at "len"))
  | ((with_reducible refine a_SS ?rda ?_); (case rda => walk_at "len"))
  | ((with_reducible refine ln_S ?rda ?_); (case rda => walk_at "len"))
  | with_reducible refine e_SS ?_
  | with_reducible refine ne_SS ?_
  | with_reducible refine s_ii ?_
  | ((with_reducible refine md_ii ?rdc ?_); (case rdc => first | decide | assumption | omega))
  | with_reducible refine n_i ?_
  | with_reducible refine e_ii ?_
  | with_reducible refine e_bb ?_
  | with_reducible refine ne_ii ?_
  | with_reducible refine ne_bb ?_
  | with_reducible refine lt_ii ?_
  | with_reducible refine lt_ss ?_
  | with_reducible refine le_ii ?_
  | with_reducible refine gt_ii ?_
  | with_reducible refine gt_ss ?_
  | with_reducible refine ge_ii ?_
  | with_reducible refine e_ss ?_
  | with_reducible refine ne_ss ?_
  | with_reducible refine is_N ?_
  | with_reducible refine is_T ?_
  | with_reducible refine is_B ?_
  | with_reducible refine isn_N ?_
  | with_reducible refine isn_T ?_
  | with_reducible refine isn_B ?_
  | with_reducible refine in_s ?_
  | with_reducible refine nin_s ?_
  | with_reducible refine i_i ?_
  | with_reducible refine i_b ?_
  | with_reducible refine ab_i ?_
  | with_reducible refine mx_ii ?_
  | with_reducible refine mn_ii ?_
  | with_reducible refine ty_N ?_
  | with_reducible refine ty_B ?_
  | with_reducible refine ty_I ?_
  | with_reducible refine ty_S ?_
  | with_reducible refine ma_s ?_
  | with_reducible refine mp_s ?_
  | with_reducible refine mdg_s ?_
  | with_reducible refine mf_s ?_
  | with_reducible refine iteT ?_
  | with_reducible refine iteF ?_
  | with_reducible refine iteNt ?_
  | with_reducible refine iteNf ?_
  | with_reducible refine iteTd (by decide) ?_
  | with_reducible refine iteFd (by decide) ?_
  | with_reducible refine iteNd (by decide) ?_
  | with_reducible refine iteNdF (by decide) ?_
  | ((with_reducible refine iteFd ?rdn ?_); (case rdn => (intro rdz; cases rdz; done)))
  | ((with_reducible refine iteNdF ?rdn ?_); (case rdn => (intro rdz; cases rdz; done))))
local macro_rules | `(tactic| walk_at "rd") => `(tactic| (repeat walk_at "rd1"))
section
variable {P : Program} {w : World} {K : PySem.W.Frag} {mg : Str → Option Value} {base : Heap}
def isBo : PyData → Bool | .bool _ => true | _ => false
def isIn : PyData → Bool | .bool _ => true | .int _ => true | _ => false
def isSt : PyData → Bool | .str _ => true | _ => false
def isTu : PyData → Bool | .tuple _ => true | _ => false
def isLi : PyData → Bool | .list _ => true | _ => false
def isNo : PyData → Bool | .none => true | _ => false
def kinds6 (d : PyData) : List Bool := [isBo d, isIn d, isSt d] ++ [isTu d, isLi d, isNo d]
theorem kit_bo {H : Hp} {x : V} {d : PyData} (h : Dp K H x d) : kitB (tyName d) "bool" = some (isBo d) := by cases h <;> first | rfl | decide +kernel
theorem kit_in {H : Hp} {x : V} {d : PyData} (h : Dp K H x d) : kitB (tyName d) "int" = some (isIn d) := by cases h <;> first | rfl | decide +kernel
theorem kit_st {H : Hp} {x : V} {d : PyData} (h : Dp K H x d) : kitB (tyName d) "str" = some (isSt d) := by cases h <;> first | rfl | decide +kernel
theorem kit_tu {H : Hp} {x : V} {d : PyData} (h : Dp K H x d) : kitB (tyName d) "tuple" = some (isTu d) := by cases h <;> first | rfl | decide +kernel
theorem kit_li {H : Hp} {x : V} {d : PyData} (h : Dp K H x d) : kitB (tyName d) "list" = some (isLi d) := by cases h <;> first | rfl | decide +kernel
theorem non_d {H : Hp} {x : V} {d : PyData} (h : Dp K H x d) : decide (x = .non) = isNo d := by cases h <;> rfl
def Up (F : PyData → Prop) : PyData → Prop
  | .list ds => ds.length ≤ 100000 ∧ ∀ e ∈ ds, F e
  | .tuple ds => ds.length ≤ 100000 ∧ ∀ e ∈ ds, F e
  | d => SeqAt.shaped d = true
def Fine : Nat → PyData → Prop
  | 0 => Up fun _ => False
  | n + 1 => Up (Fine n)
def SqX (K : PySem.W.Frag) (H : Hp) (p : Addr) (xs : List V) : Prop := SqL K H p xs ∨ SqT K H p xs
theorem SqX.mono {H H' : Hp} {p : Addr} {xs : List V} (e : Same H H') (h : SqX K H p xs) : SqX K H' p xs := h.elim (fun h => .inl (e.seq h)) fun h => .inr (same_sqt e h)
theorem ix_X {H : Hp} {Q : VK} {p : Addr} {xs : List V} {i : Int} {v : V} (h : SqX K H p xs) (ha : atI xs i = some v) (q : Q v H) : rIX K (.ref p) (.int i) H Q := h.elim (fun h => ix_L h ha q) fun h => ix_T h ha q
theorem ln_X {H : Hp} {Q : VK} {p : Addr} {xs : List V} (h : SqX K H p xs) (q : Q (.int xs.length) H) : rLEN K [.ref p] H Q := h.elim (fun h => ln_l h q) fun h => ln_t h q
def spS (F : PyData → Prop) (K : PySem.W.Frag) : Sp := fun vs H Q _ => ∃ (x y : V) (d : PyData), vs = [x, y] ∧ Dp K H x d ∧ Dp K H y d ∧ F d ∧ ∀ H', Same H H' → Q (.bl true) H'
theorem same_step (Y : Fx K mg) {n : Nat} (F : PyData → Prop) (G : FnOk P w K mg base CX0 n Y.a__law_same Y.fd__law_same ["_law_found", "_law_due"] (spS F K)) :
    FnOk P w K mg base CX0 (n + 1) Y.a__law_same Y.fd__law_same ["_law_found", "_law_due"] (spS (Up F) K) := by
  refine Y.F__law_same.ok sc__law_same (fun vs H Q E h => ?_) (fun cdv A outer s H vs Q E hr h => ?_)
  · obtain ⟨x, y, d, rfl, _⟩ := h
    rfl
  · obtain ⟨x, y, d, rfl, hx, hy, hF, q⟩ := h
    refine ⟨_, b__law_same Y G (Nat.zero_le _) hr, ?_⟩
    show t__law_same K _ _ [some x, some y, none] H
    unfold t__law_same
    walk_at "rd"
    rw [non_d hy]
    refine ite2' (fun e => ?_) (fun e => ?_)
    · walk_at "rd"
      rw [non_d hx, e]
      exact q H (Same.refl H)
    · walk_at "rd"
      refine isi_d hy (kit_bo hy) ?_
      walk_at "rd"
      refine ite2' (fun e2 => ?_) (fun e2 => ?_)
      · have hsh : SeqAt.shaped d = true := by
          cases d <;> first | exact hF | cases e2
        walk_at "rd"
        refine isi_d hx (kit_bo hx) ?_
        rw [e2]
        walk_at "rd"
        refine e_d hx hy hsh hsh ?_
        rw [eqv_same hsh]
        exact q H (Same.refl H)
      · walk_at "rd"
        refine isi_d hy (kit_in hy) ?_
        walk_at "rd"
        refine ite2' (fun e3 => ?_) (fun e3 => ?_)
        · have hsh : SeqAt.shaped d = true := by
            cases d <;> first | exact hF | cases e3
          walk_at "rd"
          refine isi_d hx (kit_in hx) ?_
          rw [e3]
          walk_at "rd"
          refine isi_d hx (kit_bo hx) ?_
          rw [e2]
          walk_at "rd"
          refine e_d hx hy hsh hsh ?_
          rw [eqv_same hsh]
          exact q H (Same.refl H)
        · walk_at "rd"
          refine isi_d hy (kit_st hy) ?_
          walk_at "rd"
          refine ite2' (fun e4 => ?_) (fun e4 => ?_)
          · have hsh : SeqAt.shaped d = true := by
              cases d <;> first | exact hF | cases e4
            walk_at "rd"
            refine isi_d hx (kit_st hx) ?_
            rw [e4]
            walk_at "rd"
            refine e_d hx hy hsh hsh ?_
            rw [eqv_same hsh]
            exact q H (Same.refl H)
          · walk_at "rd"
            refine isi_d hy (kit_li hy) ?_
            walk_at "rd"
            refine isi_d hx (kit_li hx) ?_
            walk_at "rd"
            rw [decide_eq_true (show isLi d = isLi d from rfl)]
            walk_at "rd"
            refine isi_d hy (kit_tu hy) ?_
            walk_at "rd"
            refine isi_d hx (kit_tu hx) ?_
            walk_at "rd"
            rw [decide_eq_true (show isTu d = isTu d from rfl)]
            refine iteNt ?_
            refine s_next ?_
            have seq : ∀ (ds : List PyData) (px py : Addr) (vx vy : List V), ds.length ≤ 100000 → (∀ e ∈ ds, F e) → SqX K H px vx → SqX K H py vy → DpAll K H vx ds → DpAll K H vy ds → x = .ref px → y = .ref py →
                tRet (tAndV (tOp (rEQ K) (tCB (rLEN K) (tCons (tVar 0) tNil)) (tCB (rLEN K) (tCons (tVar 1) tNil))) (tOp (rEQ K) (tLc (iRng1 (tCons (tCB (rLEN K) (tCons (tVar 1) tNil)) tNil)) (gName 2) (tNot (tTru1 K (tCall (spS F K) [] E0 (tCons (tOp (rIX K) (tVar 0) (tVar 2)) (tCons (tOp (rIX K) (tVar 1) (tVar 2)) tNil))))) (tVar 2) [2]) (tLst tNil)))
                  { nx := fun _ H' => Q .non H', rt := Q } [some x, some y, none] H := by
              rintro ds px py vx vy hl hFe hsx hsy hax hay rfl rfl
              have lx := dpAll_len hax
              have ly := dpAll_len hay
              walk_at "rd"
              refine ln_X hsx ?_
              walk_at "rd"
              refine ln_X hsy ?_
              rw [lx, ly]
              walk_at "rd"
              refine iteTd rfl ?_
              walk_at "rd"
              refine ln_X hsy ?_
              walk_at "rd"
              rw [ly]
              refine lcR1_mk (by omega) (by omega) (fun D i H' => Same H H' ∧ H' D = some (.lst [])) (fun D hD => ⟨same_upd hD, upd_same⟩) (fun D i H' hD hi hp => ?_) (fun D H' hD hp => ?_)
              · obtain ⟨hs, hd⟩ := hp
                rw [Int.toNat_natCast] at hi
                obtain ⟨v1, e1, d1⟩ := dpAll_get hax hi
                obtain ⟨v2, e2, d2⟩ := dpAll_get hay hi
                refine ⟨rfl, ?_⟩
                walk_at "rd"
                refine ix_X (hsx.mono hs) (atI_nat e1) ?_
                walk_at "rd"
                refine ix_X (hsy.mono hs) (atI_nat e2) ?_
                walk_at "rd"
                refine ⟨v1, v2, ds[i], rfl, dp_mono hs _ _ d1, dp_mono hs _ _ d2, hFe _ (List.getElem_mem hi), fun H4 hS4 => ?_⟩
                walk_at "rd"
                exact ⟨hs.trans hS4, hS4 _ _ hd⟩
              · obtain ⟨hs, hd⟩ := hp
                walk_at "rd"
                refine ⟨Nat.zero_le _, fun p2 hp2 => ?_⟩
                refine e_d (.lst (lst_of (same_upd hp2 _ _ hd)) .nil) (.lst (lst_of upd_same) .nil) (by decide) (by decide) ?_
                exact q _ (same_new hs hp2)
            cases hx with
            | non => cases e
            | bl b => cases e2
            | int i => cases e3
            | str z => cases e4
            | lst hs ha =>
              cases hy with
              | lst hs' ha' => exact seq _ _ _ _ _ hF.1 hF.2 (.inl hs) (.inl hs') ha ha' rfl rfl
            | tup hs ha =>
              cases hy with
              | tup hs' ha' => exact seq _ _ _ _ _ hF.1 hF.2 (.inr hs) (.inr hs') ha ha' rfl rfl
theorem ok__law_same (Y : Fx K mg) : ∀ n : Nat, FnOk P w K mg base CX0 (n + 1) Y.a__law_same Y.fd__law_same ["_law_found", "_law_due"] (spS (Fine n) K)
  | 0 => same_step Y (fun _ => False) ⟨fun vs H Q E h => by obtain ⟨x, y, d, rfl, _⟩ := h; rfl, fun A outer s H args us vs Q E hr he hb hv hs => by obtain ⟨x, y, d, rfl, _, _, z, _⟩ := hs; exact z.elim⟩
  | n + 1 => same_step Y (Fine n) (ok__law_same Y n)
end
end My

set_option Elab.async false
set_option linter.all false
set_option maxRecDepth 100000
set_option maxHeartbeats 1000000
namespace My
open PySem PySem.Spec PyProof.Rows L2
local macro_rules | `(tactic| walk_at "len") => `(tactic| first | assumption | omega | decide | (simp only [List.length_append, List.length_take, List.length_drop, List.length_cons, List.length_nil, List.length_replicate]; omega))
local macro_rules | `(tactic| walk_at "side") => `(tactic| first | assumption | exact Nat.zero_le _ | decide | omega)
local macro_rules | `(tactic| walk_at "rd1") => `(tactic| first
  | with_reducible refine s_seq ?_
  | with_reducible refine x_gsub ?_
  | with_reducible refine s_asg ?_
  | ((with_reducible refine s_gn ?_); dsimp only [List.set])
  | ((with_reducible refine x_var (v := ?rdv) ?rdhv ?_); (case rdhv => rfl))
  | with_reducible refine x_c ?_
  | with_reducible refine x_op ?_
  | with_reducible refine x_cons ?_
  | with_reducible refine x_nil ?_
  | with_reducible refine x_cb ?_
  | with_reducible refine x_call ?_
  | with_reducible refine s_if ?_
  | with_reducible refine s_ret ?_
  | with_reducible refine s_retN ?_
  | with_reducible refine s_next ?_
  | with_reducible refine s_brk ?_
  | with_reducible refine s_cont ?_
  | with_reducible refine s_drop ?_
  | with_reducible refine s_par ?_
  | with_reducible refine s_par3 ?_
  | ((with_reducible refine s_p2 ?_); dsimp only [List.set])
  | ((with_reducible refine s_p3 ?_); dsimp only [List.set])
  | with_reducible refine f_r1 ?_
  | with_reducible refine f_r2 ?_
  | with_reducible refine f_l ?_
  | with_reducible refine f_t ?_
  | with_reducible refine f_s ?_
  | with_reducible refine c_r1 ?_
  | with_reducible refine c_r2 ?_
  | with_reducible refine c_l ?_
  | with_reducible refine c_t ?_
  | with_reducible refine c_s ?_
  | with_reducible refine x_tst ?_
  | with_reducible refine x_tru ?_
  | with_reducible refine x_truB ?_
  | with_reducible refine x_bl2 ?_
  | with_reducible refine x_int ?_
  | with_reducible refine x_str ?_
  | with_reducible refine x_not ?_
  | with_reducible refine x_and ?_
  | with_reducible refine x_or ?_
  | with_reducible refine x_andV ?_
  | with_reducible refine x_orV ?_
  | with_reducible refine x_notV ?_
  | with_reducible refine x_if ?_
  | with_reducible refine x_yes ?_
  | with_reducible refine x_un ?_
  | with_reducible refine x_tup ?_
  | with_reducible refine x_lst ?_
  | with_reducible refine x_callK ?_
  | with_reducible refine x_callK0 ?_
  | with_reducible refine x_bm ?_
  | with_reducible refine x_bm0 ?_
  | with_reducible refine x_tyS ?_
  | with_reducible refine x_sl ?_
  | with_reducible refine x_nopart ?_
  | with_reducible refine x_part ?_
  | with_reducible refine x_fmt0 ?_
  | with_reducible refine x_gc ?_
  | with_reducible refine x_gz ?_
  | with_reducible refine x_ckw ?_
  | with_reducible refine x_fmt ?_
  | with_reducible refine x_chain ?_
  | with_reducible refine a_ii ?_
  | ((with_reducible refine sl_to ?rda ?rdb ?_); (case rda => walk_at "len"); (case rdb => walk_at "len"))
  | ((with_reducible refine sl_from ?rda ?rdb ?_); (case rda => walk_at "len"); (case rdb => walk_at "len"))
  | ((with_reducible refine sl_mid ?rda ?rdb ?rdc ?_); (case rda => walk_at "len"); (case rdb => walk_at "len"); (case rdc => walk_at "len"))
  | ((with_reducible refine a_SS ?rda ?_); (case rda => walk_at "len"))
  | ((with_reducible refine ln_S ?rda ?_); (case rda => walk_at "len"))
  | with_reducible refine e_SS ?_
  | with_reducible refine ne_SS ?_
  | with_reducible refine s_ii ?_
  | ((with_reducible refine md_ii ?rdc ?_); (case rdc => first | decide | assumption | omega))
  | with_reducible refine n_i ?_
  | with_reducible refine e_ii ?_
  | with_reducible refine e_bb ?_
  | with_reducible refine ne_ii ?_
  | with_reducible refine ne_bb ?_
  | with_reducible refine lt_ii ?_
  | with_reducible refine lt_ss ?_
  | with_reducible refine le_ii ?_
  | with_reducible refine gt_ii ?_
  | with_reducible refine gt_ss ?_
  | with_reducible refine ge_ii ?_
  | with_reducible refine e_ss ?_
  | with_reducible refine ne_ss ?_
  | with_reducible refine is_N ?_
  | with_reducible refine is_T ?_
  | with_reducible refine is_B ?_
  | with_reducible refine isn_N ?_
  | with_reducible refine isn_T ?_
  | with_reducible refine isn_B ?_
  | with_reducible refine in_s ?_
  | with_reducible refine nin_s ?_
  | with_reducible refine i_i ?_
  | with_reducible refine i_b ?_
  | with_reducible refine ab_i ?_
  | with_reducible refine mx_ii ?_
  | with_reducible refine mn_ii ?_
  | with_reducible refine ty_N ?_
  | with_reducible refine ty_B ?_
  | with_reducible refine ty_I ?_
  | with_reducible refine ty_S ?_
  | with_reducible refine ma_s ?_
  | with_reducible refine mp_s ?_
  | with_reducible refine mdg_s ?_
  | with_reducible refine mf_s ?_
  | with_reducible refine iteT ?_
  | with_reducible refine iteF ?_
  | with_reducible refine iteNt ?_
  | with_reducible refine iteNf ?_
  | with_reducible refine iteTd (by decide) ?_
  | with_reducible refine iteFd (by decide) ?_
  | with_reducible refine iteNd (by decide) ?_
  | with_reducible refine iteNdF (by decide) ?_
  | ((with_reducible refine iteFd ?rdn ?_); (case rdn => (intro rdz; cases rdz; done)))
  | ((with_reducible refine iteNdF ?rdn ?_); (case rdn => (intro rdz; cases rdz; done))))
local macro_rules | `(tactic| walk_at "rd") => `(tactic| (repeat walk_at "rd1"))
section
variable {P : Program} {w : World} {K : PySem.W.Frag} {mg : Str → Option Value} {base : Heap}
/-! the law's own text of a node -/
def sp__law_node_text (K : PySem.W.Frag) : Sp := fun vs H Q _ => ∃ (x : V) (nd : Nd), vs = [x] ∧ Dp K H x (ndD nd) ∧ NdOk nd ∧ ∀ H', Same H H' → Q (.str (S (ndT nd))) H'
theorem ok__law_node_text (Y : Fx K mg) : FnOk P w K mg base CX0 1 Y.a__law_node_text Y.fd__law_node_text ["_law_node_here"] (sp__law_node_text K) := by
  refine Y.F__law_node_text.ok sc__law_node_text (fun vs H Q E h => ?_) (fun cdv A outer s H vs Q E hr h => ?_)
  · obtain ⟨x, nd, rfl, _⟩ := h
    rfl
  · obtain ⟨x, nd, rfl, hx, hok, q⟩ := h
    refine ⟨_, b__law_node_text Y hr, ?_⟩
    show t__law_node_text K _ [some x, none, none, none, none, none, none] H
    unfold t__law_node_text
    rw [show ("leaf" : Str) = S leafL from rfl, show ("L" : Str) = S [76] from rfl, show ("I" : Str) = S [73] from rfl]
    cases nd with
    | leaf es =>
      obtain ⟨hel, hes⟩ := hok
      obtain ⟨p, u, v, rfl, hp, hu, hv⟩ := dp_tup2 hx
      have hu' := dp_str' hu
      subst hu'
      obtain ⟨p2, us, rfl, hp2, hus⟩ := dp_tup' hv
      have hlu := dpAll_len hus
      rw [List.length_map] at hlu
      walk_at "rd"
      refine ix_T hp (by rfl) ?_
      walk_at "rd"
      refine ix_T hp (by rfl) ?_
      refine lcT_mk hp2 (fun D i H' => Same H H' ∧ H' D = some (.lst (tv ((es.take i).map enT)))) (fun D hD => ⟨same_upd hD, upd_same⟩) (fun D i H' hD _ hP => same_sqt hP.1 hp2) (fun D i x H' hD hxi hP => ?_) (fun D H' hD hP => ?_)
      · obtain ⟨hS, hH⟩ := hP
        obtain ⟨e, he, hde⟩ := all_at hus hxi
        have hi := (List.getElem?_eq_some_iff.mp he).1
        have hle := hes e (List.mem_of_getElem? he)
        obtain ⟨t, a, b, rfl, ht, ha, hb⟩ := dp_tup2 hde
        have ha' := dp_str' ha
        have hb' := dp_str' hb
        subst ha' hb'
        refine gt_T (same_sqt hS ht) rfl ?_
        refine x_gc ?_
        refine s_gn ?_
        refine x_gc ?_
        refine s_gn ?_
        refine x_gz ?_
        refine ⟨rfl, ?_⟩
        show tYes [some (.ref p), none, some (.str (S e.1)), some (.str (S e.2)), none, none, none] H' _
        have l1 := hle.1.2
        have l2 := hle.2.2
        have p1 := pad_le (w := 3) (n := e.1.length) (by omega)
        have p2 := pad_le (w := 3) (n := e.2.length) (by omega)
        walk_at "rd"
        refine ⟨(e.1.length : Int), rfl, log_small (by omega), ?_⟩
        walk_at "rd"
        refine ⟨_, 3, rfl, rfl, by decide, ?_⟩
        rw [show Txt.zfill (toString (e.1.length : Int)) 3 = S (pad 3 e.1.length) from zf_num 3 e.1.length]
        walk_at "rd"
        refine ⟨(e.2.length : Int), rfl, log_small (by omega), ?_⟩
        walk_at "rd"
        refine ⟨_, 3, rfl, rfl, by decide, ?_⟩
        rw [show Txt.zfill (toString (e.2.length : Int)) 3 = S (pad 3 e.2.length) from zf_num 3 e.2.length]
        refine a_SS (by omega) ?_
        walk_at "rd"
        refine ⟨_, hH, Nat.lt_of_le_of_lt (show _ ≤ 50 by rw [tv_len, List.length_map, List.length_take]; omega) (by decide), same_mut hS hD, ?_⟩
        rw [upd_same, take_snoc he, List.map_append, tv_app]
        rfl
      · obtain ⟨hS, hH⟩ := hP
        rw [hlu, List.take_of_length_le (Nat.le_refl _)] at hH
        walk_at "rd"
        have hfl : (es.map enT).flatten.length ≤ 2100 * 50 := by
          refine Nat.le_trans (flat_le (n := 2100) fun c hc => ?_) (Nat.mul_le_mul (Nat.le_refl _) (by rw [List.length_map]; exact hel))
          obtain ⟨e, he, rfl⟩ := List.mem_map.mp hc
          exact enT_le (hes e he)
        refine jn_0 (lst_of (by rw [← tv_eq]; exact hH)) (by omega) ?_
        refine a_SS (by rw [List.length_singleton]; omega) ?_
        exact q H' hS
    | inner ms ks =>
      obtain ⟨hml, hkl, hms, hks⟩ := hok
      obtain ⟨p, u, v, z, rfl, hp, hu, hv, hz⟩ := dp_tup3 hx
      have hu' := dp_str' hu
      subst hu'
      obtain ⟨pm, um, rfl, hpm, hum⟩ := dp_tup' hv
      obtain ⟨pk, uk, rfl, hpk, huk⟩ := dp_tup' hz
      have hlm := dpAll_len hum
      have hlk := dpAll_len huk
      rw [List.length_map] at hlm hlk
      walk_at "rd"
      refine ix_T hp (by rfl) ?_
      walk_at "rd"
      refine ix_T hp (by rfl) ?_
      refine lcT_mk hpk (fun D i H' => Same H H' ∧ H' D = some (.lst (tv ((ks.take i).map (pad 4))))) (fun D hD => ⟨same_upd hD, upd_same⟩) (fun D i H' hD _ hP => same_sqt hP.1 hpk) (fun D i x H' hD hxi hP => ?_) (fun D H' hD hP => ?_)
      · obtain ⟨hS, hH⟩ := hP
        obtain ⟨k, hk, hdk⟩ := all_at huk hxi
        have hi := (List.getElem?_eq_some_iff.mp hk).1
        have hk6 := hks k (List.mem_of_getElem? hk)
        have hk' := dp_int' hdk
        subst hk'
        refine ⟨rfl, ?_⟩
        walk_at "rd"
        refine ⟨(k : Int), rfl, log_small hk6, ?_⟩
        walk_at "rd"
        refine ⟨_, 4, rfl, rfl, by decide, ?_⟩
        rw [show Txt.zfill (toString (k : Int)) 4 = S (pad 4 k) from zf_num 4 k]
        refine ⟨_, hH, Nat.lt_of_le_of_lt (show _ ≤ 50 by rw [tv_len, List.length_map, List.length_take]; omega) (by decide), same_mut hS hD, ?_⟩
        rw [upd_same, take_snoc hk, List.map_append, tv_app]
        rfl
      · obtain ⟨hS, hH⟩ := hP
        rw [hlk, List.take_of_length_le (Nat.le_refl _)] at hH
        walk_at "rd"
        have hfl : (ks.map (pad 4)).flatten.length ≤ 10 * 50 := by
          refine Nat.le_trans (flat_le (n := 10) fun c hc => ?_) (Nat.mul_le_mul (Nat.le_refl _) (by rw [List.length_map]; exact hkl))
          obtain ⟨e, he, rfl⟩ := List.mem_map.mp hc
          exact pad_le (w := 4) (hks e he)
        refine jn_0 (lst_of (by rw [← tv_eq]; exact hH)) (by omega) ?_
        walk_at "rd"
        refine ix_T (same_sqt hS hp) (by rfl) ?_
        walk_at "rd"
        refine ln_t (same_sqt hS hpk) ?_
        rw [hlk]
        walk_at "rd"
        refine ⟨(ks.length : Int), rfl, log_small (by omega), ?_⟩
        rw [show (toString (ks.length : Int) : Str) = S (TL.numL ks.length) from SX.num_S ks.length]
        have hnl : (TL.numL ks.length).length ≤ 10 := by
          rw [numL_eq, List.length_map]
          exact Nat.le_trans (toDigits_len10 (w := 6) (by omega) (by decide)) (by decide)
        walk_at "rd"
        refine ix_T (same_sqt hS hp) (by rfl) ?_
        refine lcT_mk (same_sqt hS hpm) (fun E i H2 => Same H' H2 ∧ H2 E = some (.lst (tv ((ms.take i).map mkT)))) (fun E hE => ⟨same_upd hE, upd_same⟩) (fun E i H2 hE _ hP => same_sqt (hS.trans hP.1) hpm) (fun E i x H2 hE hxi hP => ?_) (fun E H2 hE hP => ?_)
        · obtain ⟨hS2, hH2⟩ := hP
          obtain ⟨m, hm, hdm⟩ := all_at hum hxi
          have hi := (List.getElem?_eq_some_iff.mp hm).1
          have hm' := dp_str' hdm
          subst hm'
          refine ⟨rfl, ?_⟩
          walk_at "rd"
          have l1 := (hms m (List.mem_of_getElem? hm)).2
          have p1 := pad_le (w := 3) (n := m.length) (by omega)
          refine ln_S (by omega) ?_
          walk_at "rd"
          refine ⟨(m.length : Int), rfl, log_small (by omega), ?_⟩
          walk_at "rd"
          refine ⟨_, 3, rfl, rfl, by decide, ?_⟩
          rw [show Txt.zfill (toString (m.length : Int)) 3 = S (pad 3 m.length) from zf_num 3 m.length]
          walk_at "rd"
          refine ⟨_, hH2, Nat.lt_of_le_of_lt (show _ ≤ 50 by rw [tv_len, List.length_map, List.length_take]; omega) (by decide), same_mut hS2 hE, ?_⟩
          rw [upd_same, take_snoc hm, List.map_append, tv_app]
          rfl
        · obtain ⟨hS2, hH2⟩ := hP
          rw [hlm, List.take_of_length_le (Nat.le_refl _)] at hH2
          walk_at "rd"
          have hfm : (ms.map mkT).flatten.length ≤ 1100 * 50 := by
            refine Nat.le_trans (flat_le (n := 1100) fun c hc => ?_) (Nat.mul_le_mul (Nat.le_refl _) (by rw [List.length_map]; exact hml))
            obtain ⟨e, he, rfl⟩ := List.mem_map.mp hc
            exact mkT_le (hms e he)
          refine jn_0 (lst_of (by rw [← tv_eq]; exact hH2)) (by omega) ?_
          refine a_SS (by simp only [List.length_append, List.length_singleton]; omega) ?_
          exact q H2 (hS.trans hS2)
end
end My

set_option Elab.async false
set_option linter.all false
set_option maxRecDepth 100000
set_option maxHeartbeats 1000000
namespace My
open PySem PySem.Spec PyProof.Rows L2
local macro_rules | `(tactic| walk_at "len") => `(tactic| first | assumption | omega | decide | (simp only [List.length_append, List.length_take, List.length_drop, List.length_cons, List.length_nil, List.length_replicate]; omega))
local macro_rules | `(tactic| walk_at "side") => `(tactic| first | assumption | exact Nat.zero_le _ | decide | omega)
local macro_rules | `(tactic| walk_at "rd1") => `(tactic| first
  | with_reducible refine s_seq ?_
  | with_reducible refine x_gsub ?_
  | with_reducible refine s_asg ?_
  | ((with_reducible refine s_gn ?_); dsimp only [List.set])
  | ((with_reducible refine x_var (v := ?rdv) ?rdhv ?_); (case rdhv => rfl))
  | with_reducible refine x_c ?_
  | with_reducible refine x_op ?_
  | with_reducible refine x_cons ?_
  | with_reducible refine x_nil ?_
  | with_reducible refine x_cb ?_
  | with_reducible refine x_call ?_
  | with_reducible refine s_if ?_
  | with_reducible refine s_ret ?_
  | with_reducible refine s_retN ?_
  | with_reducible refine s_next ?_
  | with_reducible refine s_brk ?_
  | with_reducible refine s_cont ?_
  | with_reducible refine s_drop ?_
  | with_reducible refine s_par ?_
  | with_reducible refine s_par3 ?_
  | ((with_reducible refine s_p2 ?_); dsimp only [List.set])
  | ((with_reducible refine s_p3 ?_); dsimp only [List.set])
  | with_reducible refine f_r1 ?_
  | with_reducible refine f_r2 ?_
  | with_reducible refine f_l ?_
  | with_reducible refine f_t ?_
  | with_reducible refine f_s ?_
  | with_reducible refine c_r1 ?_
  | with_reducible refine c_r2 ?_
  | with_reducible refine c_l ?_
  | with_reducible refine c_t ?_
  | with_reducible refine c_s ?_
  | with_reducible refine x_tst ?_
  | with_reducible refine x_tru ?_
  | with_reducible refine x_truB ?_
  | with_reducible refine x_bl2 ?_
  | with_reducible refine x_int ?_
  | with_reducible refine x_str ?_
  | with_reducible refine x_not ?_
  | with_reducible refine x_and ?_
  | with_reducible refine x_or ?_
  | with_reducible refine x_andV ?_
  | with_reducible refine x_orV ?_
  | with_reducible refine x_notV ?_
  | with_reducible refine x_if ?_
  | with_reducible refine x_yes ?_
  | with_reducible refine x_un ?_
  | with_reducible refine x_tup ?_
  | with_reducible refine x_lst ?_
  | with_reducible refine x_callK ?_
  | with_reducible refine x_callK0 ?_
  | with_reducible refine x_bm ?_
  | with_reducible refine x_bm0 ?_
  | with_reducible refine x_tyS ?_
  | with_reducible refine x_sl ?_
  | with_reducible refine x_nopart ?_
  | with_reducible refine x_part ?_
  | with_reducible refine x_fmt0 ?_
  | with_reducible refine x_gc ?_
  | with_reducible refine x_gz ?_
  | with_reducible refine x_ckw ?_
  | with_reducible refine x_fmt ?_
  | with_reducible refine x_chain ?_
  | with_reducible refine a_ii ?_
  | ((with_reducible refine sl_to ?rda ?rdb ?_); (case rda => walk_at "len"); (case rdb => walk_at "len"))
  | ((with_reducible refine sl_from ?rda ?rdb ?_); (case rda => walk_at "len"); (case rdb => walk_at "len"))
  | ((with_reducible refine sl_mid ?rda ?rdb ?rdc ?_); (case rda => walk_at "len"); (case rdb => walk_at "len"); (case rdc => walk_at "len"))
  | ((with_reducible refine a_SS ?rda ?_); (case rda => walk_at "len"))
  | ((with_reducible refine ln_S ?rda ?_); (case rda => walk_at "len"))
  | with_reducible refine e_SS ?_
  | with_reducible refine ne_SS ?_
  | with_reducible refine s_ii ?_
  | ((with_reducible refine md_ii ?rdc ?_); (case rdc => first | decide | assumption | omega))
  | with_reducible refine n_i ?_
  | with_reducible refine e_ii ?_
  | with_reducible refine e_bb ?_
  | with_reducible refine ne_ii ?_
  | with_reducible refine ne_bb ?_
  | with_reducible refine lt_ii ?_
  | with_reducible refine lt_ss ?_
  | with_reducible refine le_ii ?_
  | with_reducible refine gt_ii ?_
  | with_reducible refine gt_ss ?_
  | with_reducible refine ge_ii ?_
  | with_reducible refine e_ss ?_
  | with_reducible refine ne_ss ?_
  | with_reducible refine is_N ?_
  | with_reducible refine is_T ?_
  | with_reducible refine is_B ?_
  | with_reducible refine isn_N ?_
  | with_reducible refine isn_T ?_
  | with_reducible refine isn_B ?_
  | with_reducible refine in_s ?_
  | with_reducible refine nin_s ?_
  | with_reducible refine i_i ?_
  | with_reducible refine i_b ?_
  | with_reducible refine ab_i ?_
  | with_reducible refine mx_ii ?_
  | with_reducible refine mn_ii ?_
  | with_reducible refine ty_N ?_
  | with_reducible refine ty_B ?_
  | with_reducible refine ty_I ?_
  | with_reducible refine ty_S ?_
  | with_reducible refine ma_s ?_
  | with_reducible refine mp_s ?_
  | with_reducible refine mdg_s ?_
  | with_reducible refine mf_s ?_
  | with_reducible refine iteT ?_
  | with_reducible refine iteF ?_
  | with_reducible refine iteNt ?_
  | with_reducible refine iteNf ?_
  | with_reducible refine iteTd (by decide) ?_
  | with_reducible refine iteFd (by decide) ?_
  | with_reducible refine iteNd (by decide) ?_
  | with_reducible refine iteNdF (by decide) ?_
  | ((with_reducible refine iteFd ?rdn ?_); (case rdn => (intro rdz; cases rdz; done)))
  | ((with_reducible refine iteNdF ?rdn ?_); (case rdn => (intro rdz; cases rdz; done))))
local macro_rules | `(tactic| walk_at "rd") => `(tactic| (repeat walk_at "rd1"))
section
variable {P : Program} {w : World} {K : PySem.W.Frag} {mg : Str → Option Value} {base : Heap}
theorem mem_fig (c : Nat) : c ∈ [48, 49, 50, 51, 52, 53, 54, 55, 56, 57] ↔ 48 ≤ c ∧ c ≤ 57 := by
  simp only [List.mem_cons, List.not_mem_nil, or_false]
  omega
theorem isD_snoc {l : List Nat} {i c : Nat} (h : l[i]? = some c) : isD (l.take (i + 1)) = (isD (l.take i) && (decide (48 ≤ c) && decide (c ≤ 57))) := by
  rw [List.take_add_one, h]
  unfold isD
  show List.all (_ ++ [c]) _ = _
  rw [List.all_append]
  simp
theorem eqv_ints (ns : List Int) : PyData.eqv (.list (ns.map PyData.int)) (.list []) = decide (ns = []) := by
  cases ns with
  | nil => rfl
  | cons n ns =>
    rw [decide_eq_false (by intro h; cases h)]
    rfl
theorem dp_strs (H : Hp) : ∀ ls : List (List Nat), DpAll K H (tv ls) (ls.map fun l => PyData.str (S l))
  | [] => .nil
  | l :: ls => .cons (.str _) (dp_strs H ls)
def AllT (ls : List (List Nat)) : Prop := ∀ l ∈ ls, isT l = true
theorem shaped_strs (ls : List (List Nat)) (h : AllT ls) : SeqAt.shaped (.list (ls.map fun l => PyData.str (S l))) = true := by
  have h1 : PyData.canLayAll0 (ls.map fun l => PyData.str (S l)) = true := by
    induction ls with
    | nil => rfl
    | cons b bs ih =>
      have hb : PyData.strOk (S b) = true := by
        unfold PyData.strOk
        rw [← Array.all_toList, S_cps, List.all_eq_true]
        intro c hc
        have := isT_mem (h b (List.mem_cons_self ..)) hc
        exact decide_eq_true (by omega)
      simp [PyData.canLayAll0, PyData.canLay0, ih fun l hl => h l (List.mem_cons_of_mem _ hl), hb]
  have h2 : PyData.depthAll (ls.map fun l => PyData.str (S l)) ≤ 1 := by
    clear h1 h
    induction ls with
    | nil => simp [PyData.depthAll]
    | cons b bs ih =>
      simp only [List.map_cons, PyData.depthAll, PyData.depth] at *
      omega
  unfold SeqAt.shaped
  rw [Bool.and_eq_true]
  refine ⟨h1, decide_eq_true ?_⟩
  simp only [PyData.depth]
  omega
theorem eqv_strs (ls : List (List Nat)) : PyData.eqv (.list (ls.map fun l => PyData.str (S l))) (.list []) = decide (ls = []) := by
  cases ls with
  | nil => rfl
  | cons n ns =>
    rw [decide_eq_false (by intro h; cases h)]
    rfl
/-! the law's own reading of figures -/
def pv' : Option Nat → Int
  | some n => n
  | none => -1
def sp__law_part (K : PySem.W.Frag) : Sp := fun vs H Q _ => ∃ (l : List Nat) (a k : Nat), vs = [.str (S l), .int a, .int k] ∧ isT l = true ∧ l.length ≤ 100000 ∧ k ≤ 100 ∧ k ≠ 0 ∧ ∀ H', Same H H' → Q (.int (pv' (numAt l a k))) H'
theorem ok__law_part (Y : Fx K mg) : FnOk P w K mg base CX0 1 Y.a__law_part Y.fd__law_part ["_law_text_here", "_law_at", "_law_many"] (sp__law_part K) := by
  refine Y.F__law_part.ok sc__law_part (fun vs H Q E h => ?_) (fun cdv A outer s H vs Q E hr h => ?_)
  · obtain ⟨l, a, k, rfl, _⟩ := h
    rfl
  · obtain ⟨l, a, k, rfl, hT, hl, hk, hk0, q⟩ := h
    refine ⟨_, b__law_part Y hr, ?_⟩
    show t__law_part K _ [some (.str (S l)), some (.int a), some (.int k), none, none] H
    unfold t__law_part
    walk_at "rd"
    rw [show (Int.toNat ((a : Int) + (k : Int))) = a + k by omega, Int.toNat_natCast]
    have hw2 : ((l.take (a + k)).drop a).length ≤ k := by
      rw [List.length_drop, List.length_take]
      omega
    have hwT : isT ((l.take (a + k)).drop a) = true := isT_drop _ (isT_take _ hT)
    unfold numAt at q
    generalize (l.take (a + k)).drop a = wd at hw2 hwT q
    refine ite2' (fun e => ?_) (fun e => ?_)
    · have e1 : ¬ wd.length = k := by have := of_decide_eq_true e; omega
      walk_at "rd"
      rw [if_neg (fun z => e1 z.1)] at q
      exact q H (Same.refl H)
    · have e1 : wd.length = k := by have := of_decide_eq_false e; omega
      walk_at "rd"
      refine lcS_mk (fun D i H' => Same H H' ∧ ∃ gr : List (List Nat), H' D = some (.lst (tv gr)) ∧ gr.length ≤ i ∧ AllT gr ∧ decide (gr = []) = isD (wd.take i)) (fun D hD => ⟨same_upd hD, [], upd_same, Nat.le_refl _, (fun _ h => by cases h), rfl⟩) (fun D i c H1 hD hcc hP => ?_) (fun D H1 hD hP => ?_)
      · obtain ⟨hS, gr, hg, hgl, hgT, hgD⟩ := hP
        have hi := (List.getElem?_eq_some_iff.mp hcc).1
        refine ⟨rfl, ?_⟩
        walk_at "rd"
        rw [lit_figs, ← S_one]
        rw [S_cps]
        refine ite2' (fun e => ?_) (fun e => ?_)
        · rw [Bool.not_eq_true'] at e
          have hn : ¬ (48 ≤ c ∧ c ≤ 57) := fun z => of_decide_eq_false e ((mem_fig c).mpr z)
          walk_at "rd"
          refine ⟨_, hg, ?_, same_mut hS hD, gr ++ [[c]], ?_, ?_, ?_, ?_⟩
          · rw [tv_len]
            exact Nat.lt_of_le_of_lt (show gr.length ≤ 100 by omega) (by decide)
          · rw [upd_same, tv_app]
            rfl
          · rw [List.length_append]
            exact Nat.succ_le_succ hgl
          · intro z hz
            rcases List.mem_append.mp hz with h | h
            · exact hgT z h
            · rw [List.mem_singleton.mp h]
              exact isT_get hwT hcc
          · rw [isD_snoc hcc, decide_eq_false (by simp)]
            by_cases h1 : 48 ≤ c
            · rw [decide_eq_false (show ¬ c ≤ 57 from fun z => hn ⟨h1, z⟩), Bool.and_false, Bool.and_false]
            · rw [decide_eq_false h1, Bool.false_and, Bool.and_false]
        · rw [Bool.not_eq_false'] at e
          have hn := (mem_fig c).mp (of_decide_eq_true e)
          refine ⟨hS, gr, hg, by omega, hgT, ?_⟩
          rw [isD_snoc hcc, decide_eq_true hn.1, decide_eq_true hn.2, hgD]
          simp
      · obtain ⟨hS, gr, hg, hgl, hgT, hgD⟩ := hP
        rw [List.take_of_length_le (Nat.le_refl _)] at hgD
        walk_at "rd"
        refine ⟨Nat.zero_le _, fun p2 hp2 => ?_⟩
        have hg2 := same_upd hp2 (o := .lst []) _ _ hg
        have hS2 := same_new hS hp2 (o := .lst [])
        refine ne_d (.lst (lst_of hg2) (dp_strs _ gr)) (.lst (lst_of upd_same) .nil) (shaped_strs gr hgT) (by decide) ?_
        rw [eqv_strs, hgD]
        generalize upd H1 p2 (.lst []) = H2 at hS2
        walk_at "rd"
        refine ite2' (fun e => ?_) (fun e => ?_)
        · rw [Bool.not_eq_true'] at e
          walk_at "rd"
          rw [if_neg (fun z => by rw [z.2.2] at e; cases e)] at q
          exact q H2 hS2
        · rw [Bool.not_eq_false'] at e
          walk_at "rd"
          have e2 : wd ≠ [] := by
            intro y
            rw [y] at e1
            exact hk0 e1.symm
          refine i_s (SX.int_S (a := wd) e e2 (by omega)) (by rw [S_len]; omega) ?_
          rw [if_pos ⟨e1, hk0, e⟩] at q
          exact q H2 hS2
end
end My

set_option Elab.async false
set_option linter.all false
set_option maxRecDepth 100000
set_option maxHeartbeats 1000000
namespace My
open PySem PySem.Spec PyProof.Rows L2
local macro_rules | `(tactic| walk_at "len") => `(tactic| first | assumption | omega | decide | (simp only [List.length_append, List.length_take, List.length_drop, List.length_cons, List.length_nil, List.length_replicate]; omega))
local macro_rules | `(tactic| walk_at "side") => `(tactic| first | assumption | exact Nat.zero_le _ | decide | omega)
local macro_rules | `(tactic| walk_at "rd1") => `(tactic| first
  | with_reducible refine s_seq ?_
  | with_reducible refine x_gsub ?_
  | with_reducible refine s_asg ?_
  | ((with_reducible refine s_gn ?_); dsimp only [List.set])
  | ((with_reducible refine x_var (v := ?rdv) ?rdhv ?_); (case rdhv => rfl))
  | with_reducible refine x_c ?_
  | with_reducible refine x_op ?_
  | with_reducible refine x_cons ?_
  | with_reducible refine x_nil ?_
  | with_reducible refine x_cb ?_
  | with_reducible refine x_call ?_
  | with_reducible refine s_if ?_
  | with_reducible refine s_ret ?_
  | with_reducible refine s_retN ?_
  | with_reducible refine s_next ?_
  | with_reducible refine s_brk ?_
  | with_reducible refine s_cont ?_
  | with_reducible refine s_drop ?_
  | with_reducible refine s_par ?_
  | with_reducible refine s_par3 ?_
  | ((with_reducible refine s_p2 ?_); dsimp only [List.set])
  | ((with_reducible refine s_p3 ?_); dsimp only [List.set])
  | with_reducible refine f_r1 ?_
  | with_reducible refine f_r2 ?_
  | with_reducible refine f_l ?_
  | with_reducible refine f_t ?_
  | with_reducible refine f_s ?_
  | with_reducible refine c_r1 ?_
  | with_reducible refine c_r2 ?_
  | with_reducible refine c_l ?_
  | with_reducible refine c_t ?_
  | with_reducible refine c_s ?_
  | with_reducible refine x_tst ?_
  | with_reducible refine x_tru ?_
  | with_reducible refine x_truB ?_
  | with_reducible refine x_bl2 ?_
  | with_reducible refine x_int ?_
  | with_reducible refine x_str ?_
  | with_reducible refine x_not ?_
  | with_reducible refine x_and ?_
  | with_reducible refine x_or ?_
  | with_reducible refine x_andV ?_
  | with_reducible refine x_orV ?_
  | with_reducible refine x_notV ?_
  | with_reducible refine x_if ?_
  | with_reducible refine x_yes ?_
  | with_reducible refine x_un ?_
  | with_reducible refine x_tup ?_
  | with_reducible refine x_lst ?_
  | with_reducible refine x_callK ?_
  | with_reducible refine x_callK0 ?_
  | with_reducible refine x_bm ?_
  | with_reducible refine x_bm0 ?_
  | with_reducible refine x_tyS ?_
  | with_reducible refine x_sl ?_
  | with_reducible refine x_nopart ?_
  | with_reducible refine x_part ?_
  | with_reducible refine x_fmt0 ?_
  | with_reducible refine x_gc ?_
  | with_reducible refine x_gz ?_
  | with_reducible refine x_ckw ?_
  | with_reducible refine x_fmt ?_
  | with_reducible refine x_chain ?_
  | with_reducible refine a_ii ?_
  | ((with_reducible refine sl_to ?rda ?rdb ?_); (case rda => walk_at "len"); (case rdb => walk_at "len"))
  | ((with_reducible refine sl_from ?rda ?rdb ?_); (case rda => walk_at "len"); (case rdb => walk_at "len"))
  | ((with_reducible refine sl_mid ?rda ?rdb ?rdc ?_); (case rda => walk_at "len"); (case rdb => walk_at "len"); (case rdc => walk_at "len"))
  | ((with_reducible refine a_SS ?rda ?_); (case rda => walk_at "len"))
  | ((with_reducible refine ln_S ?rda ?_); (case rda => walk_at "len"))
  | with_reducible refine e_SS ?_
  | with_reducible refine ne_SS ?_
  | with_reducible refine s_ii ?_
  | ((with_reducible refine md_ii ?rdc ?_); (case rdc => first | decide | assumption | omega))
  | with_reducible refine n_i ?_
  | with_reducible refine e_ii ?_
  | with_reducible refine e_bb ?_
  | with_reducible refine ne_ii ?_
  | with_reducible refine ne_bb ?_
  | with_reducible refine lt_ii ?_
  | with_reducible refine lt_ss ?_
  | with_reducible refine le_ii ?_
  | with_reducible refine gt_ii ?_
  | with_reducible refine gt_ss ?_
  | with_reducible refine ge_ii ?_
  | with_reducible refine e_ss ?_
  | with_reducible refine ne_ss ?_
  | with_reducible refine is_N ?_
  | with_reducible refine is_T ?_
  | with_reducible refine is_B ?_
  | with_reducible refine isn_N ?_
  | with_reducible refine isn_T ?_
  | with_reducible refine isn_B ?_
  | with_reducible refine in_s ?_
  | with_reducible refine nin_s ?_
  | with_reducible refine i_i ?_
  | with_reducible refine i_b ?_
  | with_reducible refine ab_i ?_
  | with_reducible refine mx_ii ?_
  | with_reducible refine mn_ii ?_
  | with_reducible refine ty_N ?_
  | with_reducible refine ty_B ?_
  | with_reducible refine ty_I ?_
  | with_reducible refine ty_S ?_
  | with_reducible refine ma_s ?_
  | with_reducible refine mp_s ?_
  | with_reducible refine mdg_s ?_
  | with_reducible refine mf_s ?_
  | with_reducible refine iteT ?_
  | with_reducible refine iteF ?_
  | with_reducible refine iteNt ?_
  | with_reducible refine iteNf ?_
  | with_reducible refine iteTd (by decide) ?_
  | with_reducible refine iteFd (by decide) ?_
  | with_reducible refine iteNd (by decide) ?_
  | with_reducible refine iteNdF (by decide) ?_
  | ((with_reducible refine iteFd ?rdn ?_); (case rdn => (intro rdz; cases rdz; done)))
  | ((with_reducible refine iteNdF ?rdn ?_); (case rdn => (intro rdz; cases rdz; done))))
local macro_rules | `(tactic| walk_at "rd") => `(tactic| (repeat walk_at "rd1"))
section
variable {P : Program} {w : World} {K : PySem.W.Frag} {mg : Str → Option Value} {base : Heap}
/-! the entries of a leaf's text -/
def cutL (l : List Nat) (a b : Nat) : List Nat := (l.take b).drop a
def leafR (l : List Nat) : Nat → Nat → Option (List (List Nat × List Nat))
  | 0, _ => some []
  | n + 1, a => if a < l.length then
      match numAt l a 3, numAt l (a + 3) 3 with
      | some x, some y => if l.length < a + 6 + x + y then none else (leafR l n (a + 6 + x + y)).map fun r => (cutL l (a + 6) (a + 6 + x), cutL l (a + 6 + x) (a + 6 + x + y)) :: r
      | _, _ => none
    else some []
theorem leafR_end {l : List Nat} {n a : Nat} (h : ¬ a < l.length) : leafR l n a = some [] := by
  cases n with
  | zero => rfl
  | succ n => rw [leafR, if_neg h]
theorem map_pre {α : Type} {o : Option (List α)} {es : List α} {e : α} : (o.map fun r => e :: r).map (es ++ ·) = o.map ((es ++ [e]) ++ ·) := by
  cases o with
  | none => rfl
  | some r => simp
def EnV (H : Hp) (us : List V) (es : List (List Nat × List Nat)) : Prop := us.length = es.length ∧ ∀ (i : Nat) (e : List Nat × List Nat), es[i]? = some e → ∃ t, us[i]? = some (.ref t) ∧ H t = some (.tup [.str (S e.1), .str (S e.2)])
theorem EnV.mono {H H' : Hp} {us : List V} {es : List (List Nat × List Nat)} (e : Same H H') (h : EnV H us es) : EnV H' us es := ⟨h.1, fun i o hi => by
  obtain ⟨v, a, b⟩ := h.2 i o hi
  exact ⟨v, a, e _ _ b⟩⟩
theorem EnV.mut {H : Hp} {us xs : List V} {es : List (List Nat × List Nat)} {D : Addr} {u : HO} (hD : H D = some (.lst xs)) (h : EnV H us es) : EnV (upd H D u) us es := ⟨h.1, fun i o hi => by
  obtain ⟨v, a, b⟩ := h.2 i o hi
  refine ⟨v, a, ?_⟩
  rw [upd_ne]
  · exact b
  · rintro rfl
    rw [hD] at b
    cases b⟩
theorem EnV.snoc {H : Hp} {us : List V} {es : List (List Nat × List Nat)} {t : Addr} {e : List Nat × List Nat} (h : EnV H us es) (hv : H t = some (.tup [.str (S e.1), .str (S e.2)])) : EnV H (us ++ [.ref t]) (es ++ [e]) := by
  refine ⟨by rw [List.length_append, List.length_append, h.1]; rfl, fun i o' hi => ?_⟩
  by_cases hlt : i < es.length
  · rw [List.getElem?_append_left hlt] at hi
    obtain ⟨v', a, b⟩ := h.2 i o' hi
    exact ⟨v', by rw [List.getElem?_append_left (by rw [h.1]; exact hlt)]; exact a, b⟩
  · rw [List.getElem?_append_right (by omega)] at hi
    have hi2 : i - es.length < 1 := (List.getElem?_eq_some_iff.mp hi).1
    have hi3 : i = es.length := by omega
    subst hi3
    rw [Nat.sub_self] at hi
    cases hi
    exact ⟨t, by rw [List.getElem?_append_right (by rw [h.1]; exact Nat.le_refl _), h.1, Nat.sub_self]; rfl, hv⟩
theorem EnV.dp {H : Hp} : ∀ {us : List V} {es : List (List Nat × List Nat)}, EnV H us es → DpAll K H us (es.map enD)
  | [], [], _ => .nil
  | [], e :: es, h => by have := h.1; cases this
  | u :: us, [], h => by have := h.1; cases this
  | u :: us, e :: es, h => by
    obtain ⟨t, a, b⟩ := h.2 0 e rfl
    cases a
    exact .cons (.tup (tup_of b) (.cons (.str _) (.cons (.str _) .nil))) (EnV.dp (us := us) (es := es) ⟨Nat.succ.inj h.1, fun i o hi => h.2 (i + 1) o hi⟩)
def leafD : Option (List (List Nat × List Nat)) → PyData
  | none => .none
  | some es => ndD (.leaf es)
def rowsD : Option (List (List Nat × List Nat)) → PyData
  | none => .none
  | some es => .tuple (es.map enD)
def sp_leaf_told (K : PySem.W.Frag) : Sp := fun vs H Q _ => ∃ l : List Nat, vs = [.str (S l)] ∧ isT l = true ∧ l.length ≤ 100000 ∧ ∀ v H', Same H H' → Dp K H' v (leafD (leafR l l.length 1)) → Q v H'
theorem ok_leaf_told (Y : Fx K mg) : FnOk P w K mg base CX0 2 Y.a_leaf_told Y.fd_leaf_told ["text"] (sp_leaf_told K) := by
  refine Y.F_leaf_told.ok sc_leaf_told (fun vs H Q E h => ?_) (fun cdv A outer s H vs Q E hr h => ?_)
  · obtain ⟨l, rfl, _⟩ := h
    rfl
  · obtain ⟨l, rfl, hT, hl, q⟩ := h
    refine ⟨_, b_leaf_told Y (ok_number_at Y) hr, ?_⟩
    show t_leaf_told K _ _ [some (.str (S l)), none, none, none, none, none, none] H
    unfold t_leaf_told
    rw [show ("leaf" : Str) = S leafL from rfl]
    walk_at "rd"
    refine ⟨Nat.zero_le _, fun D hD => ?_⟩
    walk_at "rd"
    refine w_while (fun k σ H' => ∃ (a n : Nat) (us : List V) (es : List (List Nat × List Nat)) (y3 y4 y5 y6 : Option V), σ = [some (.str (S l)), some (.ref D), some (.int a), y3, y4, y5, y6] ∧ Same H H' ∧ H' D = some (.lst us) ∧ EnV H' us es ∧ es.length ≤ a ∧ leafR l l.length 1 = (leafR l n a).map (es ++ ·) ∧ l.length - a ≤ n ∧ k = l.length - a) _
      ⟨1, l.length, [], [], _, _, _, _, rfl, same_upd hD, upd_same, ⟨rfl, fun i e h => by cases h⟩, Nat.zero_le _, (by cases leafR l l.length 1 <;> rfl), by omega, rfl⟩ (fun k σ H1 hW => ?_)
    obtain ⟨a, n, us, es, y3, y4, y5, y6, rfl, hS, hH, hE, hel, hR, hn, rfl⟩ := hW
    walk_at "rd"
    refine ite2' (fun e => ?_) (fun e => ?_)
    · have hlt : a < l.length := by have := of_decide_eq_true e; omega
      obtain ⟨n', rfl⟩ : ∃ n', n = n' + 1 := ⟨n - 1, by omega⟩
      rw [leafR, if_pos hlt] at hR
      refine ⟨fun σ' H' => ∃ k', k' < l.length - a ∧ ∃ (a n : Nat) (us : List V) (es : List (List Nat × List Nat)) (y3 y4 y5 y6 : Option V), σ' = [some (.str (S l)), some (.ref D), some (.int a), y3, y4, y5, y6] ∧ Same H H' ∧ H' D = some (.lst us) ∧ EnV H' us es ∧ es.length ≤ a ∧ leafR l l.length 1 = (leafR l n a).map (es ++ ·) ∧ l.length - a ≤ n ∧ k' = l.length - a, fun _ _ h => h, ?_⟩
      walk_at "rd"
      refine ⟨l, a, 3, rfl, hT, hl, by decide, fun v1 h1 => ?_⟩
      walk_at "rd"
      rw [show (a : Int) + 3 = ((a + 3 : Nat) : Int) by omega]
      refine ⟨l, a + 3, 3, rfl, hT, hl, by decide, fun v2 h2 => ?_⟩
      walk_at "rd"
      generalize numAt l a 3 = o1 at h1 hR
      generalize numAt l (a + 3) 3 = o2 at h2 hR
      cases h1 with
      | none =>
        walk_at "rd"
        have hR' : leafR l l.length 1 = none := hR
        rw [hR'] at q
        exact q _ _ hS .non
      | some x =>
        cases h2 with
        | none =>
          walk_at "rd"
          have hR' : leafR l l.length 1 = none := hR
          rw [hR'] at q
          exact q _ _ hS .non
        | some y =>
          have hR' : leafR l l.length 1 = (if l.length < a + 6 + x + y then none else (leafR l n' (a + 6 + x + y)).map fun r => (cutL l (a + 6) (a + 6 + x), cutL l (a + 6 + x) (a + 6 + x + y)) :: r).map (es ++ ·) := hR
          walk_at "rd"
          refine ite2' (fun e => ?_) (fun e => ?_)
          · have := of_decide_eq_true e
            rw [if_pos (by omega)] at hR'
            have hR2 : leafR l l.length 1 = none := hR'
            walk_at "rd"
            rw [hR2] at q
            exact q _ _ hS .non
          · have hle := of_decide_eq_false e
            rw [if_neg (by omega), map_pre] at hR'
            walk_at "rd"
            refine x_tyL (lst_of hH) ?_
            walk_at "rd"
            refine ⟨by show 2 ≤ sizeLine; decide, fun t ht => ?_⟩
            have hSt := same_upd ht (o := .tup [V.str (S ((l.take ((a : Int) + 6 + x).toNat).drop ((a : Int) + 6).toNat)), V.str (S ((l.take ((a : Int) + 6 + x + y).toNat).drop ((a : Int) + 6 + x).toNat))])
            have hHt := hSt _ _ hH
            have hul : us.length ≤ 1000000 := by rw [hE.1]; omega
            walk_at "rd"
            refine ap_L hHt hul ?_
            refine ⟨l.length - (a + 6 + x + y), by omega, a + 6 + x + y, n', us ++ [.ref t], es ++ [(cutL l (a + 6) (a + 6 + x), cutL l (a + 6 + x) (a + 6 + x + y))], some (.int ((a : Int) + 6)), some (.int ((a : Int) + 6 + x)), some (.int x), some (.int y), ?_, same_mut (hS.trans hSt) hD, upd_same, (((hE.mono hSt).mut hHt).snoc ?_), ?_, hR', by omega, rfl⟩
            · rw [show (a : Int) + 6 + (x : Int) + (y : Int) = ((a + 6 + x + y : Nat) : Int) by omega]
            · rw [upd_ne (ne_new hH ht), upd_same, show ((a : Int) + 6).toNat = a + 6 by omega, show ((a : Int) + 6 + x).toNat = a + 6 + x by omega, show ((a : Int) + 6 + x + y).toNat = a + 6 + x + y by omega]
              rfl
            · rw [List.length_append]
              show es.length + 1 ≤ a + 6 + x + y
              omega
    · have hge : ¬ a < l.length := by have := of_decide_eq_false e; omega
      rw [leafR_end hge] at hR
      have hR' : leafR l l.length 1 = some es := by
        rw [hR]
        simp
      walk_at "rd"
      refine tu_L (lst_of hH) fun b hb => ?_
      have hSb := same_upd hb (o := .tup us)
      walk_at "rd"
      refine ⟨by show 2 ≤ sizeLine; decide, fun r hr' => ?_⟩
      have hSr := same_upd hr' (o := .tup [V.str (S leafL), .ref b])
      rw [hR'] at q
      exact q _ _ ((hS.trans hSb).trans hSr) (.tup (tup_of upd_same) (.cons (.str _) (.cons (.tup (same_sqt hSr (tup_of upd_same)) ((hE.mono (hSb.trans hSr)).dp)) .nil)))
end
end My

set_option Elab.async false
set_option linter.all false
set_option maxRecDepth 100000
set_option maxHeartbeats 1000000
namespace My
open PySem PySem.Spec PyProof.Rows L2
local macro_rules | `(tactic| walk_at "len") => `(tactic| first | assumption | omega | decide | (simp only [List.length_append, List.length_take, List.length_drop, List.length_cons, List.length_nil, List.length_replicate]; omega))
local macro_rules | `(tactic| walk_at "side") => `(tactic| first | assumption | exact Nat.zero_le _ | decide | omega)
local macro_rules | `(tactic| walk_at "rd1") => `(tactic| first
  | with_reducible refine s_seq ?_
  | with_reducible refine x_gsub ?_
  | with_reducible refine s_asg ?_
  | ((with_reducible refine s_gn ?_); dsimp only [List.set])
  | ((with_reducible refine x_var (v := ?rdv) ?rdhv ?_); (case rdhv => rfl))
  | with_reducible refine x_c ?_
  | with_reducible refine x_op ?_
  | with_reducible refine x_cons ?_
  | with_reducible refine x_nil ?_
  | with_reducible refine x_cb ?_
  | with_reducible refine x_call ?_
  | with_reducible refine s_if ?_
  | with_reducible refine s_ret ?_
  | with_reducible refine s_retN ?_
  | with_reducible refine s_next ?_
  | with_reducible refine s_brk ?_
  | with_reducible refine s_cont ?_
  | with_reducible refine s_drop ?_
  | with_reducible refine s_par ?_
  | with_reducible refine s_par3 ?_
  | ((with_reducible refine s_p2 ?_); dsimp only [List.set])
  | ((with_reducible refine s_p3 ?_); dsimp only [List.set])
  | with_reducible refine f_r1 ?_
  | with_reducible refine f_r2 ?_
  | with_reducible refine f_l ?_
  | with_reducible refine f_t ?_
  | with_reducible refine f_s ?_
  | with_reducible refine c_r1 ?_
  | with_reducible refine c_r2 ?_
  | with_reducible refine c_l ?_
  | with_reducible refine c_t ?_
  | with_reducible refine c_s ?_
  | with_reducible refine x_tst ?_
  | with_reducible refine x_tru ?_
  | with_reducible refine x_truB ?_
  | with_reducible refine x_bl2 ?_
  | with_reducible refine x_int ?_
  | with_reducible refine x_str ?_
  | with_reducible refine x_not ?_
  | with_reducible refine x_and ?_
  | with_reducible refine x_or ?_
  | with_reducible refine x_andV ?_
  | with_reducible refine x_orV ?_
  | with_reducible refine x_notV ?_
  | with_reducible refine x_if ?_
  | with_reducible refine x_yes ?_
  | with_reducible refine x_un ?_
  | with_reducible refine x_tup ?_
  | with_reducible refine x_lst ?_
  | with_reducible refine x_callK ?_
  | with_reducible refine x_callK0 ?_
  | with_reducible refine x_bm ?_
  | with_reducible refine x_bm0 ?_
  | with_reducible refine x_tyS ?_
  | with_reducible refine x_sl ?_
  | with_reducible refine x_nopart ?_
  | with_reducible refine x_part ?_
  | with_reducible refine x_fmt0 ?_
  | with_reducible refine x_gc ?_
  | with_reducible refine x_gz ?_
  | with_reducible refine x_ckw ?_
  | with_reducible refine x_fmt ?_
  | with_reducible refine x_chain ?_
  | with_reducible refine a_ii ?_
  | ((with_reducible refine sl_to ?rda ?rdb ?_); (case rda => walk_at "len"); (case rdb => walk_at "len"))
  | ((with_reducible refine sl_from ?rda ?rdb ?_); (case rda => walk_at "len"); (case rdb => walk_at "len"))
  | ((with_reducible refine sl_mid ?rda ?rdb ?rdc ?_); (case rda => walk_at "len"); (case rdb => walk_at "len"); (case rdc => walk_at "len"))
  | ((with_reducible refine a_SS ?rda ?_); (case rda => walk_at "len"))
  | ((with_reducible refine ln_S ?rda ?_); (case rda => walk_at "len"))
  | with_reducible refine e_SS ?_
  | with_reducible refine ne_SS ?_
  | with_reducible refine s_ii ?_
  | ((with_reducible refine md_ii ?rdc ?_); (case rdc => first | decide | assumption | omega))
  | with_reducible refine n_i ?_
  | with_reducible refine e_ii ?_
  | with_reducible refine e_bb ?_
  | with_reducible refine ne_ii ?_
  | with_reducible refine ne_bb ?_
  | with_reducible refine lt_ii ?_
  | with_reducible refine lt_ss ?_
  | with_reducible refine le_ii ?_
  | with_reducible refine gt_ii ?_
  | with_reducible refine gt_ss ?_
  | with_reducible refine ge_ii ?_
  | with_reducible refine e_ss ?_
  | with_reducible refine ne_ss ?_
  | with_reducible refine is_N ?_
  | with_reducible refine is_T ?_
  | with_reducible refine is_B ?_
  | with_reducible refine isn_N ?_
  | with_reducible refine isn_T ?_
  | with_reducible refine isn_B ?_
  | with_reducible refine in_s ?_
  | with_reducible refine nin_s ?_
  | with_reducible refine i_i ?_
  | with_reducible refine i_b ?_
  | with_reducible refine ab_i ?_
  | with_reducible refine mx_ii ?_
  | with_reducible refine mn_ii ?_
  | with_reducible refine ty_N ?_
  | with_reducible refine ty_B ?_
  | with_reducible refine ty_I ?_
  | with_reducible refine ty_S ?_
  | with_reducible refine ma_s ?_
  | with_reducible refine mp_s ?_
  | with_reducible refine mdg_s ?_
  | with_reducible refine mf_s ?_
  | with_reducible refine iteT ?_
  | with_reducible refine iteF ?_
  | with_reducible refine iteNt ?_
  | with_reducible refine iteNf ?_
  | with_reducible refine iteTd (by decide) ?_
  | with_reducible refine iteFd (by decide) ?_
  | with_reducible refine iteNd (by decide) ?_
  | with_reducible refine iteNdF (by decide) ?_
  | ((with_reducible refine iteFd ?rdn ?_); (case rdn => (intro rdz; cases rdz; done)))
  | ((with_reducible refine iteNdF ?rdn ?_); (case rdn => (intro rdz; cases rdz; done))))
local macro_rules | `(tactic| walk_at "rd") => `(tactic| (repeat walk_at "rd1"))
section
variable {P : Program} {w : World} {K : PySem.W.Frag} {mg : Str → Option Value} {base : Heap}
def sp__law_leaf_told (K : PySem.W.Frag) : Sp := fun vs H Q _ => ∃ l : List Nat, vs = [.str (S l)] ∧ isT l = true ∧ l.length ≤ 100000 ∧ ∀ v H', Same H H' → Dp K H' v (rowsD (leafR l l.length 1)) → Q v H'
theorem ok__law_leaf_told (Y : Fx K mg) : FnOk P w K mg base CX0 2 Y.a__law_leaf_told Y.fd__law_leaf_told ["_law_text_here"] (sp__law_leaf_told K) := by
  refine Y.F__law_leaf_told.ok sc__law_leaf_told (fun vs H Q E h => ?_) (fun cdv A outer s H vs Q E hr h => ?_)
  · obtain ⟨l, rfl, _⟩ := h
    rfl
  · obtain ⟨l, rfl, hT, hl, q⟩ := h
    refine ⟨_, b__law_leaf_told Y (ok__law_part Y) hr, ?_⟩
    show t__law_leaf_told K _ _ [some (.str (S l)), none, none, none, none, none] H
    unfold t__law_leaf_told
    walk_at "rd"
    refine ⟨Nat.zero_le _, fun D hD => ?_⟩
    walk_at "rd"
    refine w_while (fun k σ H' => ∃ (a n : Nat) (us : List V) (es : List (List Nat × List Nat)) (y3 y4 y5 : Option V), σ = [some (.str (S l)), some (.ref D), some (.int a), y3, y4, y5] ∧ Same H H' ∧ H' D = some (.lst us) ∧ EnV H' us es ∧ es.length ≤ a ∧ leafR l l.length 1 = (leafR l n a).map (es ++ ·) ∧ l.length - a ≤ n ∧ k = l.length - a) _
      ⟨1, l.length, [], [], _, _, _, rfl, same_upd hD, upd_same, ⟨rfl, fun i e h => by cases h⟩, Nat.zero_le _, (by cases leafR l l.length 1 <;> rfl), by omega, rfl⟩ (fun k σ H1 hW => ?_)
    obtain ⟨a, n, us, es, y3, y4, y5, rfl, hS, hH, hE, hel, hR, hn, rfl⟩ := hW
    walk_at "rd"
    refine ite2' (fun e => ?_) (fun e => ?_)
    · have hlt : a < l.length := by have := of_decide_eq_true e; omega
      obtain ⟨n', rfl⟩ : ∃ n', n = n' + 1 := ⟨n - 1, by omega⟩
      rw [leafR, if_pos hlt] at hR
      refine ⟨fun σ' H' => ∃ k', k' < l.length - a ∧ ∃ (a n : Nat) (us : List V) (es : List (List Nat × List Nat)) (y3 y4 y5 : Option V), σ' = [some (.str (S l)), some (.ref D), some (.int a), y3, y4, y5] ∧ Same H H' ∧ H' D = some (.lst us) ∧ EnV H' us es ∧ es.length ≤ a ∧ leafR l l.length 1 = (leafR l n a).map (es ++ ·) ∧ l.length - a ≤ n ∧ k' = l.length - a, fun _ _ h => h, ?_⟩
      walk_at "rd"
      refine ⟨l, a, 3, rfl, hT, hl, by decide, by decide, fun H2 hS2 => ?_⟩
      walk_at "rd"
      rw [show (a : Int) + 3 = ((a + 3 : Nat) : Int) by omega]
      refine ⟨l, a + 3, 3, rfl, hT, hl, by decide, by decide, fun H3 hS3 => ?_⟩
      have hS' := (hS.trans hS2).trans hS3
      have hH' := (hS2.trans hS3) _ _ hH
      have hE' := hE.mono (hS2.trans hS3)
      clear hS hH hE hS2 hS3
      generalize numAt l a 3 = o1 at hR
      generalize numAt l (a + 3) 3 = o2 at hR
      walk_at "rd"
      cases o1 with
      | none =>
        have hm : (if pv' o2 < pv' none then pv' o2 else pv' none) < 0 := by
          show (if pv' o2 < -1 then pv' o2 else -1) < 0
          split <;> omega
        rw [decide_eq_true hm]
        have hR' : leafR l l.length 1 = none := hR
        walk_at "rd"
        rw [hR'] at q
        exact q _ _ hS' .non
      | some x =>
        cases o2 with
        | none =>
          have hm : (if pv' none < pv' (some x) then pv' none else pv' (some x)) < 0 := by
            show (if (-1 : Int) < (x : Int) then (-1 : Int) else x) < 0
            split <;> omega
          rw [decide_eq_true hm]
          have hR' : leafR l l.length 1 = none := hR
          walk_at "rd"
          rw [hR'] at q
          exact q _ _ hS' .non
        | some y =>
          have hm : ¬ (if pv' (some y) < pv' (some x) then pv' (some y) else pv' (some x)) < 0 := by
            show ¬ (if (y : Int) < (x : Int) then (y : Int) else x) < 0
            split <;> omega
          rw [decide_eq_false hm, show pv' (some x) = (x : Int) from rfl, show pv' (some y) = (y : Int) from rfl]
          have hR' : leafR l l.length 1 = (if l.length < a + 6 + x + y then none else (leafR l n' (a + 6 + x + y)).map fun r => (cutL l (a + 6) (a + 6 + x), cutL l (a + 6 + x) (a + 6 + x + y)) :: r).map (es ++ ·) := hR
          walk_at "rd"
          refine ite2' (fun e => ?_) (fun e => ?_)
          · have := of_decide_eq_true e
            rw [if_pos (by omega)] at hR'
            have hR2 : leafR l l.length 1 = none := hR'
            walk_at "rd"
            rw [hR2] at q
            exact q _ _ hS' .non
          · have hle := of_decide_eq_false e
            rw [if_neg (by omega), map_pre] at hR'
            walk_at "rd"
            refine x_tyL (lst_of hH') ?_
            walk_at "rd"
            refine ⟨by show 2 ≤ sizeLine; decide, fun t ht => ?_⟩
            have hSt := same_upd ht (o := .tup [V.str (S ((l.take ((a : Int) + 6 + x).toNat).drop ((a : Int) + 6).toNat)), V.str (S ((l.take ((a : Int) + 6 + x + y).toNat).drop ((a : Int) + 6 + x).toNat))])
            have hHt := hSt _ _ hH'
            have hul : us.length ≤ 1000000 := by rw [hE'.1]; omega
            walk_at "rd"
            refine ap_L hHt hul ?_
            walk_at "rd"
            refine ⟨l.length - (a + 6 + x + y), by omega, a + 6 + x + y, n', us ++ [.ref t], es ++ [(cutL l (a + 6) (a + 6 + x), cutL l (a + 6 + x) (a + 6 + x + y))], some (.int ((a : Int) + 6 + x + y)), some (.int x), some (.int y), ?_, same_mut (hS'.trans hSt) hD, upd_same, (((hE'.mono hSt).mut hHt).snoc ?_), ?_, hR', by omega, rfl⟩
            · rw [show (a : Int) + 6 + (x : Int) + (y : Int) = ((a + 6 + x + y : Nat) : Int) by omega]
            · rw [upd_ne (ne_new hH' ht), upd_same, show ((a : Int) + 6).toNat = a + 6 by omega, show ((a : Int) + 6 + x).toNat = a + 6 + x by omega, show ((a : Int) + 6 + x + y).toNat = a + 6 + x + y by omega]
              rfl
            · rw [List.length_append]
              show es.length + 1 ≤ a + 6 + x + y
              omega
    · have hge : ¬ a < l.length := by have := of_decide_eq_false e; omega
      rw [leafR_end hge] at hR
      have hR' : leafR l l.length 1 = some es := by
        rw [hR]
        simp
      walk_at "rd"
      refine tu_L (lst_of hH) fun b hb => ?_
      have hSb := same_upd hb (o := .tup us)
      rw [hR'] at q
      exact q _ _ (hS.trans hSb) (.tup (tup_of upd_same) (hE.mono hSb).dp)
end
end My

set_option Elab.async false
set_option linter.all false
set_option maxRecDepth 100000
set_option maxHeartbeats 1000000
namespace My
open PySem PySem.Spec PyProof.Rows L2
local macro_rules | `(tactic| walk_at "len") => `(tactic| first | assumption | omega | decide | (simp only [List.length_append, List.length_take, List.length_drop, List.length_cons, List.length_nil, List.length_replicate]; omega))
local macro_rules | `(tactic| walk_at "side") => `(tactic| first | assumption | exact Nat.zero_le _ | decide | omega)
local macro_rules | `(tactic| walk_at "rd1") => `(tactic| first
  | with_reducible refine s_seq ?_
  | with_reducible refine x_gsub ?_
  | with_reducible refine s_asg ?_
  | ((with_reducible refine s_gn ?_); dsimp only [List.set])
  | ((with_reducible refine x_var (v := ?rdv) ?rdhv ?_); (case rdhv => rfl))
  | with_reducible refine x_c ?_
  | with_reducible refine x_op ?_
  | with_reducible refine x_cons ?_
  | with_reducible refine x_nil ?_
  | with_reducible refine x_cb ?_
  | with_reducible refine x_call ?_
  | with_reducible refine s_if ?_
  | with_reducible refine s_ret ?_
  | with_reducible refine s_retN ?_
  | with_reducible refine s_next ?_
  | with_reducible refine s_brk ?_
  | with_reducible refine s_cont ?_
  | with_reducible refine s_drop ?_
  | with_reducible refine s_par ?_
  | with_reducible refine s_par3 ?_
  | ((with_reducible refine s_p2 ?_); dsimp only [List.set])
  | ((with_reducible refine s_p3 ?_); dsimp only [List.set])
  | with_reducible refine f_r1 ?_
  | with_reducible refine f_r2 ?_
  | with_reducible refine f_l ?_
  | with_reducible refine f_t ?_
  | with_reducible refine f_s ?_
  | with_reducible refine c_r1 ?_
  | with_reducible refine c_r2 ?_
  | with_reducible refine c_l ?_
  | with_reducible refine c_t ?_
  | with_reducible refine c_s ?_
  | with_reducible refine x_tst ?_
  | with_reducible refine x_tru ?_
  | with_reducible refine x_truB ?_
  | with_reducible refine x_bl2 ?_
  | with_reducible refine x_int ?_
  | with_reducible refine x_str ?_
  | with_reducible refine x_not ?_
  | with_reducible refine x_and ?_
  | with_reducible refine x_or ?_
  | with_reducible refine x_andV ?_
  | with_reducible refine x_orV ?_
  | with_reducible refine x_notV ?_
  | with_reducible refine x_if ?_
  | with_reducible refine x_yes ?_
  | with_reducible refine x_un ?_
  | with_reducible refine x_tup ?_
  | with_reducible refine x_lst ?_
  | with_reducible refine x_callK ?_
  | with_reducible refine x_callK0 ?_
  | with_reducible refine x_bm ?_
  | with_reducible refine x_bm0 ?_
  | with_reducible refine x_tyS ?_
  | with_reducible refine x_sl ?_
  | with_reducible refine x_nopart ?_
  | with_reducible refine x_part ?_
  | with_reducible refine x_fmt0 ?_
  | with_reducible refine x_gc ?_
  | with_reducible refine x_gz ?_
  | with_reducible refine x_ckw ?_
  | with_reducible refine x_fmt ?_
  | with_reducible refine x_chain ?_
  | with_reducible refine a_ii ?_
  | ((with_reducible refine sl_to ?rda ?rdb ?_); (case rda => walk_at "len"); (case rdb => walk_at "len"))
  | ((with_reducible refine sl_from ?rda ?rdb ?_); (case rda => walk_at "len"); (case rdb => walk_at "len"))
  | ((with_reducible refine sl_mid ?rda ?rdb ?rdc ?_); (case rda => walk_at "len"); (case rdb => walk_at "len"); (case rdc => walk_at "len"))
  | ((with_reducible refine a_SS ?rda ?_); (case rda => walk_at "len"))
  | ((with_reducible refine ln_S ?rda ?_); (case rda => walk_at "len"))
  | with_reducible refine e_SS ?_
  | with_reducible refine ne_SS ?_
  | with_reducible refine s_ii ?_
  | ((with_reducible refine md_ii ?rdc ?_); (case rdc => first | decide | assumption | omega))
  | with_reducible refine n_i ?_
  | with_reducible refine e_ii ?_
  | with_reducible refine e_bb ?_
  | with_reducible refine ne_ii ?_
  | with_reducible refine ne_bb ?_
  | with_reducible refine lt_ii ?_
  | with_reducible refine lt_ss ?_
  | with_reducible refine le_ii ?_
  | with_reducible refine gt_ii ?_
  | with_reducible refine gt_ss ?_
  | with_reducible refine ge_ii ?_
  | with_reducible refine e_ss ?_
  | with_reducible refine ne_ss ?_
  | with_reducible refine is_N ?_
  | with_reducible refine is_T ?_
  | with_reducible refine is_B ?_
  | with_reducible refine isn_N ?_
  | with_reducible refine isn_T ?_
  | with_reducible refine isn_B ?_
  | with_reducible refine in_s ?_
  | with_reducible refine nin_s ?_
  | with_reducible refine i_i ?_
  | with_reducible refine i_b ?_
  | with_reducible refine ab_i ?_
  | with_reducible refine mx_ii ?_
  | with_reducible refine mn_ii ?_
  | with_reducible refine ty_N ?_
  | with_reducible refine ty_B ?_
  | with_reducible refine ty_I ?_
  | with_reducible refine ty_S ?_
  | with_reducible refine ma_s ?_
  | with_reducible refine mp_s ?_
  | with_reducible refine mdg_s ?_
  | with_reducible refine mf_s ?_
  | with_reducible refine iteT ?_
  | with_reducible refine iteF ?_
  | with_reducible refine iteNt ?_
  | with_reducible refine iteNf ?_
  | with_reducible refine iteTd (by decide) ?_
  | with_reducible refine iteFd (by decide) ?_
  | with_reducible refine iteNd (by decide) ?_
  | with_reducible refine iteNdF (by decide) ?_
  | ((with_reducible refine iteFd ?rdn ?_); (case rdn => (intro rdz; cases rdz; done)))
  | ((with_reducible refine iteNdF ?rdn ?_); (case rdn => (intro rdz; cases rdz; done))))
local macro_rules | `(tactic| walk_at "rd") => `(tactic| (repeat walk_at "rd1"))
section
variable {P : Program} {w : World} {K : PySem.W.Frag} {mg : Str → Option Value} {base : Heap}
/-! the parts of an inner node's text -/
def kidV : Option Nat → V
  | some n => .int n
  | none => .non
theorem numV_eq {o : Option Nat} {v : V} (h : NumV o v) : v = kidV o := by
  cases h <;> rfl
def marksR (l : List Nat) : Nat → Nat → Option (List (List Nat) × Nat)
  | 0, a => some ([], a)
  | n + 1, a => match numAt l a 3 with
    | none => none
    | some x => if l.length < a + 3 + x then none else (marksR l n (a + 3 + x)).map fun r => (cutL l (a + 3) (a + 3 + x) :: r.1, r.2)
def kidsO (l : List Nat) (m : Nat) : List (Option Nat) := (List.range m).map fun j => numAt l (2 + 4 * j) 4
def innerR (l : List Nat) : Option (List (List Nat) × List Nat) := match numAt l 1 1 with
  | none => none
  | some m => if m = 0 then none else match marksR l (m - 1) (2 + 4 * m) with
    | none => none
    | some (ms, a) => if a = l.length ∧ (kidsO l m).all Option.isSome = true then some (ms, (kidsO l m).map fun o => o.getD 0) else none
def innerD : Option (List (List Nat) × List Nat) → PyData
  | none => .none
  | some (ms, ks) => ndD (.inner ms ks)
theorem numAt_beyond {l : List Nat} {a k : Nat} (h : l.length < a) (hk : k ≠ 0) : numAt l a k = none := by
  unfold numAt
  rw [if_neg]
  rintro ⟨h1, _, _⟩
  rw [List.length_drop, List.length_take] at h1
  omega
theorem numAt_one {l : List Nat} {a m : Nat} (h : numAt l a 1 = some m) : m < 10 := by
  unfold numAt at h
  split at h
  · rename_i hh
    obtain ⟨h1, _, h3⟩ := hh
    generalize (l.take (a + 1)).drop a = wd at h h1 h3
    match wd, h1 with
    | [c], _ =>
      cases h
      have e := digitsVal_snoc [] c
      rw [List.nil_append] at e
      rw [e]
      have z := List.all_eq_true.mp h3 c (List.mem_singleton.mpr rfl)
      rw [Bool.and_eq_true, decide_eq_true_eq, decide_eq_true_eq] at z
      show NumText.digitsVal [] * 10 + (c - 48) < 10
      have e0 : NumText.digitsVal [] = 0 := rfl
      rw [e0]
      omega
  · cases h
theorem inV_kids (os : List (Option Nat)) : inV .non (os.map kidV) = !(os.all Option.isSome) := by
  induction os with
  | nil => rfl
  | cons o os ih =>
    have e : inV .non ((o :: os).map kidV) = (eqV (kidV o) .non || inV .non (os.map kidV)) := by
      unfold inV
      rw [List.map_cons, List.any_cons]
    rw [e, ih, List.all_cons]
    cases o with
    | none =>
      have e1 : eqV (kidV none) .non = true := by decide
      rw [e1]
      rfl
    | some n =>
      have e1 : eqV (kidV (some n)) .non = false := rfl
      rw [e1]
      simp
theorem flat_kids (os : List (Option Nat)) : (os.map kidV).all flatV = true := by
  rw [List.all_eq_true]
  intro x hx
  obtain ⟨o, _, rfl⟩ := List.mem_map.mp hx
  cases o <;> rfl
theorem nullV (os : List (Option Nat)) (h : os.all Option.isSome = true) (H : Hp) : DpAll K H (os.map kidV) ((os.map fun o => o.getD 0).map fun k : Nat => PyData.int k) := by
  induction os with
  | nil => exact .nil
  | cons o os ih =>
    rw [List.all_cons, Bool.and_eq_true] at h
    cases o with
    | none => cases h.1
    | some n => exact .cons (.int _) (ih h.2)
def sp_inner_told (K : PySem.W.Frag) : Sp := fun vs H Q _ => ∃ l : List Nat, vs = [.str (S l)] ∧ isT l = true ∧ l.length ≤ 100000 ∧ ∀ v H', Same H H' → Dp K H' v (innerD (innerR l)) → Q v H'
theorem ok_inner_told (Y : Fx K mg) : FnOk P w K mg base CX0 2 Y.a_inner_told Y.fd_inner_told ["text"] (sp_inner_told K) := by
  refine Y.F_inner_told.ok sc_inner_told (fun vs H Q E h => ?_) (fun cdv A outer s H vs Q E hr h => ?_)
  · obtain ⟨l, rfl, _⟩ := h
    rfl
  · obtain ⟨l, rfl, hT, hl, q⟩ := h
    refine ⟨_, b_inner_told Y (ok_number_at Y) hr, ?_⟩
    show t_inner_told K _ _ [some (.str (S l)), none, none, none, none, none, none, none, none] H
    unfold t_inner_told
    rw [show ("inner" : Str) = S innerL from rfl]
    have no : innerR l = none → ∀ H', Same H H' → Q .non H' := fun e H' hS => q _ _ hS (by rw [e]; exact .non)
    walk_at "rd"
    refine ⟨l, 1, 1, rfl, hT, hl, by decide, fun v h1 => ?_⟩
    walk_at "rd"
    cases hm : numAt l 1 1 with
    | none =>
      rw [hm] at h1
      have e0 : innerR l = none := by unfold innerR; rw [hm]
      cases h1
      rw [decide_eq_true rfl]
      walk_at "rd"
      exact no e0 H (Same.refl H)
    | some m =>
      rw [hm] at h1
      have hm10 := numAt_one hm
      cases h1
      rw [decide_eq_false (show ¬ V.int (m : Int) = .non from fun z => by cases z)]
      walk_at "rd"
      refine ite2' (fun e => ?_) (fun e => ?_)
      · have em : m = 0 := by have := of_decide_eq_true e; omega
        have e0 : innerR l = none := by unfold innerR; rw [hm]; exact if_pos em
        walk_at "rd"
        exact no e0 H (Same.refl H)
      · have em : m ≠ 0 := by have := of_decide_eq_false e; omega
        have eR : innerR l = match marksR l (m - 1) (2 + 4 * m) with
            | none => none
            | some (ms, a) => if a = l.length ∧ (kidsO l m).all Option.isSome = true then some (ms, (kidsO l m).map fun o => o.getD 0) else none := by
          unfold innerR
          rw [hm]
          exact if_neg em
        walk_at "rd"
        refine lcR1_mk (by omega) (by omega) (fun D i H' => Same H H' ∧ H' D = some (.lst (((kidsO l m).take i).map kidV))) (fun D hD => ⟨same_upd hD, upd_same⟩) (fun D i H' hD hi hP => ?_) (fun D H1 hD hP => ?_)
        · obtain ⟨hS, hH⟩ := hP
          rw [Int.toNat_natCast] at hi
          refine ⟨rfl, ?_⟩
          walk_at "rd"
          refine m_ii (.inl (.inl (by decide))) ?_
          walk_at "rd"
          rw [show (2 : Int) + 4 * (i : Int) = ((2 + 4 * i : Nat) : Int) by omega]
          refine ⟨l, 2 + 4 * i, 4, rfl, hT, hl, by decide, fun v hv => ?_⟩
          have hk : (kidsO l m)[i]? = some (numAt l (2 + 4 * i) 4) := by
            unfold kidsO
            rw [List.getElem?_map, List.getElem?_range hi]
            rfl
          rw [numV_eq hv]
          refine ⟨_, hH, Nat.lt_of_le_of_lt (show _ ≤ 20 by rw [List.length_map, List.length_take]; omega) (by decide), same_mut hS hD, ?_⟩
          rw [upd_same, take_snoc hk, List.map_append]
          rfl
        · obtain ⟨hS1, hH1⟩ := hP
          have hkl : (kidsO l m).length = m := by unfold kidsO; rw [List.length_map, List.length_range]
          rw [Int.toNat_natCast, List.take_of_length_le (by omega)] at hH1
          walk_at "rd"
          refine m_ii (.inl (.inl (by decide))) ?_
          walk_at "rd"
          refine ⟨Nat.zero_le _, fun M hM => ?_⟩
          walk_at "rd"
          refine for1_mk (by omega) (by omega) (fun i σ H' => ∃ (a : Nat) (ms : List (List Nat)) (y3 y6 y7 y8 : Option V), σ = [some (.str (S l)), some (.int m), some (.ref D), y3, some (.int a), some (.ref M), y6, y7, y8] ∧ Same H1 H' ∧ H' M = some (.lst (tv ms)) ∧ ms.length ≤ i ∧ (marksR l (m - 1) (2 + 4 * m) = (marksR l (m - 1 - i) a).map (fun r => (ms ++ r.1, r.2)) ∨ (l.length < a ∧ marksR l (m - 1) (2 + 4 * m) = none)))
            ⟨2 + 4 * m, [], none, none, none, none, ?_, same_upd hM, upd_same, Nat.le_refl _, .inl ?_⟩ (fun i σ H' hi hV => ?_) (fun σ H' hV => ?_)
          · rw [show (2 : Int) + 4 * (m : Int) = ((2 + 4 * m : Nat) : Int) by omega]
          · rw [Nat.sub_zero]
            cases marksR l (m - 1) (2 + 4 * m) <;> rfl
          · obtain ⟨a, ms, y3, y6, y7, y8, rfl, hS2, hM2, hml, hR⟩ := hV
            have hi' : i < m - 1 := by omega
            have stop : marksR l (m - 1) (2 + 4 * m) = none → Q .non H' := fun e => no (by rw [eR, e]) _ (hS1.trans hS2)
            walk_at "rd"
            refine ⟨l, a, 3, rfl, hT, hl, by decide, fun v hv => ?_⟩
            walk_at "rd"
            cases hn : numAt l a 3 with
            | none =>
              rw [hn] at hv
              cases hv
              have e0 : marksR l (m - 1) (2 + 4 * m) = none := by
                rcases hR with hR | hR
                · rw [hR, show m - 1 - i = (m - 1 - (i + 1)) + 1 by omega, marksR, hn]
                  rfl
                · exact hR.2
              rw [decide_eq_true rfl]
              walk_at "rd"
              exact stop e0
            | some x =>
              rw [hn] at hv
              cases hv
              rw [decide_eq_false (show ¬ V.int (x : Int) = .non from fun z => by cases z)]
              have hR2 : marksR l (m - 1) (2 + 4 * m) = (marksR l (m - 1 - i) a).map (fun r => (ms ++ r.1, r.2)) := by
                rcases hR with hR | hR
                · exact hR
                · rw [numAt_beyond hR.1 (by decide)] at hn
                  cases hn
              rw [show m - 1 - i = (m - 1 - (i + 1)) + 1 by omega, marksR, hn] at hR2
              have hR3 : marksR l (m - 1) (2 + 4 * m) = (if l.length < a + 3 + x then none else (marksR l (m - 1 - (i + 1)) (a + 3 + x)).map fun r => (cutL l (a + 3) (a + 3 + x) :: r.1, r.2)).map (fun r => (ms ++ r.1, r.2)) := hR2
              walk_at "rd"
              refine x_tyL (lst_of hM2) ?_
              walk_at "rd"
              refine ap_L hM2 (by rw [tv_len]; omega) ?_
              rw [show ((a : Int) + 3).toNat = a + 3 by omega, show ((a : Int) + 3 + x).toNat = a + 3 + x by omega, show (a : Int) + 3 + (x : Int) = ((a + 3 + x : Nat) : Int) by omega]
              refine ⟨a + 3 + x, ms ++ [cutL l (a + 3) (a + 3 + x)], _, _, _, _, rfl, same_mut hS2 hM, ?_, ?_, ?_⟩
              · rw [upd_same, tv_app]
                rfl
              · rw [List.length_append]
                exact Nat.succ_le_succ hml
              · by_cases hlt : l.length < a + 3 + x
                · rw [if_pos hlt] at hR3
                  exact .inr ⟨hlt, hR3⟩
                · rw [if_neg hlt] at hR3
                  refine .inl (hR3.trans ?_)
                  cases marksR l (m - 1 - (i + 1)) (a + 3 + x) with
                  | none => rfl
                  | some r => simp
          · obtain ⟨a, ms, y3, y6, y7, y8, rfl, hS2, hM2, hml, hR⟩ := hV
            have hS12 := hS1.trans hS2
            walk_at "rd"
            refine .inr ⟨D, _, rfl, .inl (lst_of (hS2 _ _ hH1)), rfl, flat_kids _, ?_⟩
            rw [inV_kids]
            refine x_bl2 ?_
            refine ite2' (fun e => ?_) (fun e => ?_)
            · walk_at "rd"
              refine no ?_ _ hS12
              rw [eR]
              show (match marksR l (m - 1) (2 + 4 * m) with
                | none => none
                | some (ms, a) => if a = l.length ∧ (kidsO l m).all Option.isSome = true then some (ms, (kidsO l m).map fun o => o.getD 0) else none) = none
              rcases marksR l (m - 1) (2 + 4 * m) with _ | ⟨ms', a'⟩
              · rfl
              · exact if_neg fun z => by rw [z.2] at e; cases e
            · have hall : (kidsO l m).all Option.isSome = true := by
                cases h : (kidsO l m).all Option.isSome with
                | true => rfl
                | false => rw [h] at e; cases e
              have hz : m - 1 - ((m : Int) - 1).toNat = 0 := by omega
              rw [hz] at hR
              walk_at "rd"
              refine ite2' (fun e => ?_) (fun e => ?_)
              · rw [Bool.not_eq_true'] at e
                have e5 : a ≠ l.length := by have := of_decide_eq_false e; omega
                walk_at "rd"
                refine no ?_ _ hS12
                rw [eR]
                rcases hR with hR | hR
                · rw [hR]
                  exact if_neg fun z => e5 z.1
                · rw [hR.2]
              · rw [Bool.not_eq_false'] at e
                have e5 : a = l.length := by have := of_decide_eq_true e; omega
                have hR2 : marksR l (m - 1) (2 + 4 * m) = some (ms, a) := by
                  rcases hR with hR | hR
                  · rw [hR]
                    show some (ms ++ [], a) = _
                    rw [List.append_nil]
                  · omega
                have e0 : innerR l = some (ms, (kidsO l m).map fun o => o.getD 0) := by
                  rw [eR, hR2]
                  exact if_pos ⟨e5, hall⟩
                walk_at "rd"
                refine tu_L (lst_of hM2) fun b hb => ?_
                have hSb := same_upd hb (o := .tup (tv ms))
                walk_at "rd"
                refine tu_L (lst_of (hSb _ _ (hS2 _ _ hH1))) fun c hc => ?_
                have hSc := same_upd hc (o := .tup ((kidsO l m).map kidV))
                walk_at "rd"
                refine ⟨by show 3 ≤ sizeLine; decide, fun r hr' => ?_⟩
                have hSr := same_upd hr' (o := .tup [V.str (S innerL), .ref b, .ref c])
                rw [e0] at q
                exact q _ _ (((hS12.trans hSb).trans hSc).trans hSr) (.tup (tup_of upd_same) (.cons (.str _) (.cons (.tup (same_sqt (hSc.trans hSr) (tup_of upd_same)) (dp_strs _ ms)) (.cons (.tup (same_sqt hSr (tup_of upd_same)) (nullV _ hall _)) .nil))))
end
end My

set_option Elab.async false
set_option linter.all false
set_option maxRecDepth 100000
set_option maxHeartbeats 1000000
namespace My
open PySem PySem.Spec PyProof.Rows L2
local macro_rules | `(tactic| walk_at "len") => `(tactic| first | assumption | omega | decide | (simp only [List.length_append, List.length_take, List.length_drop, List.length_cons, List.length_nil, List.length_replicate]; omega))
local macro_rules | `(tactic| walk_at "side") => `(tactic| first | assumption | exact Nat.zero_le _ | decide | omega)
local macro_rules | `(tactic| walk_at "rd1") => `(tactic| first
  | with_reducible refine s_seq ?_
  | with_reducible refine x_gsub ?_
  | with_reducible refine s_asg ?_
  | ((with_reducible refine s_gn ?_); dsimp only [List.set])
  | ((with_reducible refine x_var (v := ?rdv) ?rdhv ?_); (case rdhv => rfl))
  | with_reducible refine x_c ?_
  | with_reducible refine x_op ?_
  | with_reducible refine x_cons ?_
  | with_reducible refine x_nil ?_
  | with_reducible refine x_cb ?_
  | with_reducible refine x_call ?_
  | with_reducible refine s_if ?_
  | with_reducible refine s_ret ?_
  | with_reducible refine s_retN ?_
  | with_reducible refine s_next ?_
  | with_reducible refine s_brk ?_
  | with_reducible refine s_cont ?_
  | with_reducible refine s_drop ?_
  | with_reducible refine s_par ?_
  | with_reducible refine s_par3 ?_
  | ((with_reducible refine s_p2 ?_); dsimp only [List.set])
  | ((with_reducible refine s_p3 ?_); dsimp only [List.set])
  | with_reducible refine f_r1 ?_
  | with_reducible refine f_r2 ?_
  | with_reducible refine f_l ?_
  | with_reducible refine f_t ?_
  | with_reducible refine f_s ?_
  | with_reducible refine c_r1 ?_
  | with_reducible refine c_r2 ?_
  | with_reducible refine c_l ?_
  | with_reducible refine c_t ?_
  | with_reducible refine c_s ?_
  | with_reducible refine x_tst ?_
  | with_reducible refine x_tru ?_
  | with_reducible refine x_truB ?_
  | with_reducible refine x_bl2 ?_
  | with_reducible refine x_int ?_
  | with_reducible refine x_str ?_
  | with_reducible refine x_not ?_
  | with_reducible refine x_and ?_
  | with_reducible refine x_or ?_
  | with_reducible refine x_andV ?_
  | with_reducible refine x_orV ?_
  | with_reducible refine x_notV ?_
  | with_reducible refine x_if ?_
  | with_reducible refine x_yes ?_
  | with_reducible refine x_un ?_
  | with_reducible refine x_tup ?_
  | with_reducible refine x_lst ?_
  | with_reducible refine x_callK ?_
  | with_reducible refine x_callK0 ?_
  | with_reducible refine x_bm ?_
  | with_reducible refine x_bm0 ?_
  | with_reducible refine x_tyS ?_
  | with_reducible refine x_sl ?_
  | with_reducible refine x_nopart ?_
  | with_reducible refine x_part ?_
  | with_reducible refine x_fmt0 ?_
  | with_reducible refine x_gc ?_
  | with_reducible refine x_gz ?_
  | with_reducible refine x_ckw ?_
  | with_reducible refine x_fmt ?_
  | with_reducible refine x_chain ?_
  | with_reducible refine a_ii ?_
  | ((with_reducible refine sl_to ?rda ?rdb ?_); (case rda => walk_at "len"); (case rdb => walk_at "len"))
  | ((with_reducible refine sl_from ?rda ?rdb ?_); (case rda => walk_at "len"); (case rdb => walk_at "len"))
  | ((with_reducible refine sl_mid ?rda ?rdb ?rdc ?_); (case rda => walk_at "len"); (case rdb => walk_at "len"); (case rdc => walk_at "len"))
  | ((with_reducible refine a_SS ?rda ?_); (case rda => walk_at "len"))
  | ((with_reducible refine ln_S ?rda ?_); (case rda => walk_at "len"))
  | with_reducible refine e_SS ?_
  | with_reducible refine ne_SS ?_
  | with_reducible refine s_ii ?_
  | ((with_reducible refine md_ii ?rdc ?_); (case rdc => first | decide | assumption | omega))
  | with_reducible refine n_i ?_
  | with_reducible refine e_ii ?_
  | with_reducible refine e_bb ?_
  | with_reducible refine ne_ii ?_
  | with_reducible refine ne_bb ?_
  | with_reducible refine lt_ii ?_
  | with_reducible refine lt_ss ?_
  | with_reducible refine le_ii ?_
  | with_reducible refine gt_ii ?_
  | with_reducible refine gt_ss ?_
  | with_reducible refine ge_ii ?_
  | with_reducible refine e_ss ?_
  | with_reducible refine ne_ss ?_
  | with_reducible refine is_N ?_
  | with_reducible refine is_T ?_
  | with_reducible refine is_B ?_
  | with_reducible refine isn_N ?_
  | with_reducible refine isn_T ?_
  | with_reducible refine isn_B ?_
  | with_reducible refine in_s ?_
  | with_reducible refine nin_s ?_
  | with_reducible refine i_i ?_
  | with_reducible refine i_b ?_
  | with_reducible refine ab_i ?_
  | with_reducible refine mx_ii ?_
  | with_reducible refine mn_ii ?_
  | with_reducible refine ty_N ?_
  | with_reducible refine ty_B ?_
  | with_reducible refine ty_I ?_
  | with_reducible refine ty_S ?_
  | with_reducible refine ma_s ?_
  | with_reducible refine mp_s ?_
  | with_reducible refine mdg_s ?_
  | with_reducible refine mf_s ?_
  | with_reducible refine iteT ?_
  | with_reducible refine iteF ?_
  | with_reducible refine iteNt ?_
  | with_reducible refine iteNf ?_
  | with_reducible refine iteTd (by decide) ?_
  | with_reducible refine iteFd (by decide) ?_
  | with_reducible refine iteNd (by decide) ?_
  | with_reducible refine iteNdF (by decide) ?_
  | ((with_reducible refine iteFd ?rdn ?_); (case rdn => (intro rdz; cases rdz; done)))
  | ((with_reducible refine iteNdF ?rdn ?_); (case rdn => (intro rdz; cases rdz; done))))
local macro_rules | `(tactic| walk_at "rd") => `(tactic| (repeat walk_at "rd1"))
section
variable {P : Program} {w : World} {K : PySem.W.Frag} {mg : Str → Option Value} {base : Heap}
/-! a node told -/
def nodeR (l : List Nat) : Option Nd :=
  if l.take 1 = [76] then (leafR l l.length 1).map Nd.leaf
  else if l.take 1 = [73] then (innerR l).map fun r => Nd.inner r.1 r.2
  else none
def ndO : Option Nd → PyData
  | none => .none
  | some nd => ndD nd
theorem ndO_leaf (o : Option (List (List Nat × List Nat))) : ndO (o.map Nd.leaf) = leafD o := by cases o <;> rfl
theorem ndO_inner (o : Option (List (List Nat) × List Nat)) : ndO (o.map fun r => Nd.inner r.1 r.2) = innerD o := by cases o <;> rfl
def sp_node_told (K : PySem.W.Frag) : Sp := fun vs H Q _ => ∃ l : List Nat, vs = [.str (S l)] ∧ isT l = true ∧ l.length ≤ 100000 ∧ ∀ v H', Same H H' → Dp K H' v (ndO (nodeR l)) → Q v H'
theorem ok_node_told (Y : Fx K mg) : FnOk P w K mg base CX0 3 Y.a_node_told Y.fd_node_told ["text"] (sp_node_told K) := by
  refine Y.F_node_told.ok sc_node_told (fun vs H Q E h => ?_) (fun cdv A outer s H vs Q E hr h => ?_)
  · obtain ⟨l, rfl, _⟩ := h
    rfl
  · obtain ⟨l, rfl, hT, hl, q⟩ := h
    refine ⟨_, b_node_told Y (ok_inner_told Y) (ok_is_text Y) (ok_leaf_told Y) hr, ?_⟩
    show t_node_told K _ _ _ _ [some (.str (S l))] H
    unfold t_node_told
    rw [show ("L" : Str) = S [76] from rfl, show ("I" : Str) = S [73] from rfl]
    walk_at "rd"
    refine ⟨l, rfl, ?_⟩
    rw [hT]
    walk_at "rd"
    unfold nodeR at q
    refine ite2' (fun e => ?_) (fun e => ?_)
    · have e1 : l.take 1 = [76] := of_decide_eq_true e
      walk_at "rd"
      rw [if_pos e1, ndO_leaf] at q
      exact ⟨l, rfl, hT, hl, q⟩
    · have e1 : ¬ l.take 1 = [76] := of_decide_eq_false e
      rw [if_neg e1] at q
      walk_at "rd"
      refine ite2' (fun e => ?_) (fun e => ?_)
      · have e2 : l.take 1 = [73] := of_decide_eq_true e
        walk_at "rd"
        rw [if_pos e2, ndO_inner] at q
        exact ⟨l, rfl, hT, hl, q⟩
      · have e2 : ¬ l.take 1 = [73] := of_decide_eq_false e
        walk_at "rd"
        rw [if_neg e2] at q
        exact q _ H (Same.refl H) .non
end
end My

set_option Elab.async false
set_option linter.all false
set_option maxRecDepth 100000
set_option maxHeartbeats 1000000
namespace My
open PySem PySem.Spec PyProof.Rows L2
local macro_rules | `(tactic| walk_at "len") => `(tactic| first | assumption | omega | decide | (simp only [List.length_append, List.length_take, List.length_drop, List.length_cons, List.length_nil, List.length_replicate]; omega))
local macro_rules | `(tactic| walk_at "side") => `(tactic| first | assumption | exact Nat.zero_le _ | decide | omega)
local macro_rules | `(tactic| walk_at "rd1") => `(tactic| first
  | with_reducible refine s_seq ?_
  | with_reducible refine x_gsub ?_
  | with_reducible refine s_asg ?_
  | ((with_reducible refine s_gn ?_); dsimp only [List.set])
  | ((with_reducible refine x_var (v := ?rdv) ?rdhv ?_); (case rdhv => rfl))
  | with_reducible refine x_c ?_
  | with_reducible refine x_op ?_
  | with_reducible refine x_cons ?_
  | with_reducible refine x_nil ?_
  | with_reducible refine x_cb ?_
  | with_reducible refine x_call ?_
  | with_reducible refine s_if ?_
  | with_reducible refine s_ret ?_
  | with_reducible refine s_retN ?_
  | with_reducible refine s_next ?_
  | with_reducible refine s_brk ?_
  | with_reducible refine s_cont ?_
  | with_reducible refine s_drop ?_
  | with_reducible refine s_par ?_
  | with_reducible refine s_par3 ?_
  | ((with_reducible refine s_p2 ?_); dsimp only [List.set])
  | ((with_reducible refine s_p3 ?_); dsimp only [List.set])
  | with_reducible refine f_r1 ?_
  | with_reducible refine f_r2 ?_
  | with_reducible refine f_l ?_
  | with_reducible refine f_t ?_
  | with_reducible refine f_s ?_
  | with_reducible refine c_r1 ?_
  | with_reducible refine c_r2 ?_
  | with_reducible refine c_l ?_
  | with_reducible refine c_t ?_
  | with_reducible refine c_s ?_
  | with_reducible refine x_tst ?_
  | with_reducible refine x_tru ?_
  | with_reducible refine x_truB ?_
  | with_reducible refine x_bl2 ?_
  | with_reducible refine x_int ?_
  | with_reducible refine x_str ?_
  | with_reducible refine x_not ?_
  | with_reducible refine x_and ?_
  | with_reducible refine x_or ?_
  | with_reducible refine x_andV ?_
  | with_reducible refine x_orV ?_
  | with_reducible refine x_notV ?_
  | with_reducible refine x_if ?_
  | with_reducible refine x_yes ?_
  | with_reducible refine x_un ?_
  | with_reducible refine x_tup ?_
  | with_reducible refine x_lst ?_
  | with_reducible refine x_callK ?_
  | with_reducible refine x_callK0 ?_
  | with_reducible refine x_bm ?_
  | with_reducible refine x_bm0 ?_
  | with_reducible refine x_tyS ?_
  | with_reducible refine x_sl ?_
  | with_reducible refine x_nopart ?_
  | with_reducible refine x_part ?_
  | with_reducible refine x_fmt0 ?_
  | with_reducible refine x_gc ?_
  | with_reducible refine x_gz ?_
  | with_reducible refine x_ckw ?_
  | with_reducible refine x_fmt ?_
  | with_reducible refine x_chain ?_
  | with_reducible refine a_ii ?_
  | ((with_reducible refine sl_to ?rda ?rdb ?_); (case rda => walk_at "len"); (case rdb => walk_at "len"))
  | ((with_reducible refine sl_from ?rda ?rdb ?_); (case rda => walk_at "len"); (case rdb => walk_at "len"))
  | ((with_reducible refine sl_mid ?rda ?rdb ?rdc ?_); (case rda => walk_at "len"); (case rdb => walk_at "len"); (case rdc => walk_at "len"))
  | ((with_reducible refine a_SS ?rda ?_); (case rda => walk_at "len"))
  | ((with_reducible refine ln_S ?rda ?_); (case rda => walk_at "len"))
  | with_reducible refine e_SS ?_
  | with_reducible refine ne_SS ?_
  | with_reducible refine s_ii ?_
  | ((with_reducible refine md_ii ?rdc ?_); (case rdc => first | decide | assumption | omega))
  | with_reducible refine n_i ?_
  | with_reducible refine e_ii ?_
  | with_reducible refine e_bb ?_
  | with_reducible refine ne_ii ?_
  | with_reducible refine ne_bb ?_
  | with_reducible refine lt_ii ?_
  | with_reducible refine lt_ss ?_
  | with_reducible refine le_ii ?_
  | with_reducible refine gt_ii ?_
  | with_reducible refine gt_ss ?_
  | with_reducible refine ge_ii ?_
  | with_reducible refine e_ss ?_
  | with_reducible refine ne_ss ?_
  | with_reducible refine is_N ?_
  | with_reducible refine is_T ?_
  | with_reducible refine is_B ?_
  | with_reducible refine isn_N ?_
  | with_reducible refine isn_T ?_
  | with_reducible refine isn_B ?_
  | with_reducible refine in_s ?_
  | with_reducible refine nin_s ?_
  | with_reducible refine i_i ?_
  | with_reducible refine i_b ?_
  | with_reducible refine ab_i ?_
  | with_reducible refine mx_ii ?_
  | with_reducible refine mn_ii ?_
  | with_reducible refine ty_N ?_
  | with_reducible refine ty_B ?_
  | with_reducible refine ty_I ?_
  | with_reducible refine ty_S ?_
  | with_reducible refine ma_s ?_
  | with_reducible refine mp_s ?_
  | with_reducible refine mdg_s ?_
  | with_reducible refine mf_s ?_
  | with_reducible refine iteT ?_
  | with_reducible refine iteF ?_
  | with_reducible refine iteNt ?_
  | with_reducible refine iteNf ?_
  | with_reducible refine iteTd (by decide) ?_
  | with_reducible refine iteFd (by decide) ?_
  | with_reducible refine iteNd (by decide) ?_
  | with_reducible refine iteNdF (by decide) ?_
  | ((with_reducible refine iteFd ?rdn ?_); (case rdn => (intro rdz; cases rdz; done)))
  | ((with_reducible refine iteNdF ?rdn ?_); (case rdn => (intro rdz; cases rdz; done))))
local macro_rules | `(tactic| walk_at "rd") => `(tactic| (repeat walk_at "rd1"))
section
variable {P : Program} {w : World} {K : PySem.W.Frag} {mg : Str → Option Value} {base : Heap}
theorem kids_min {os : List (Option Nat)} {z : Int} (h1 : z ∈ os.map pv') (h2 : ∀ y ∈ os.map pv', z ≤ y) : decide (z < 0) = !(os.all Option.isSome) := by
  cases h : os.all Option.isSome with
  | true =>
    rw [Bool.not_true]
    refine decide_eq_false fun hz => ?_
    obtain ⟨o, ho, rfl⟩ := List.mem_map.mp h1
    have := List.all_eq_true.mp h o ho
    cases o with
    | none => cases this
    | some n =>
      have : (0 : Int) ≤ pv' (some n) := Int.natCast_nonneg n
      omega
  | false =>
    rw [Bool.not_false]
    refine decide_eq_true ?_
    rw [List.all_eq_false] at h
    obtain ⟨o, ho, hn⟩ := h
    cases o with
    | some n => exact absurd rfl hn
    | none =>
      have := h2 (-1) (List.mem_map.mpr ⟨none, ho, rfl⟩)
      omega
theorem pv_all (os : List (Option Nat)) (h : os.all Option.isSome = true) : (os.map pv').map V.int = os.map kidV := by
  induction os with
  | nil => rfl
  | cons o os ih =>
    rw [List.all_cons, Bool.and_eq_true] at h
    cases o with
    | none => cases h.1
    | some n =>
      rw [List.map_cons, List.map_cons, List.map_cons, ih h.2]
      rfl
def sp__law_node_told (K : PySem.W.Frag) : Sp := fun vs H Q _ => ∃ l : List Nat, vs = [.str (S l)] ∧ isT l = true ∧ l.length ≤ 100000 ∧ ∀ v H', Same H H' → Dp K H' v (ndO (nodeR l)) → Q v H'
theorem ok__law_node_told (Y : Fx K mg) : FnOk P w K mg base CX0 3 Y.a__law_node_told Y.fd__law_node_told ["_law_text_here"] (sp__law_node_told K) := by
  refine Y.F__law_node_told.ok sc__law_node_told (fun vs H Q E h => ?_) (fun cdv A outer s H vs Q E hr h => ?_)
  · obtain ⟨l, rfl, _⟩ := h
    rfl
  · obtain ⟨l, rfl, hT, hl, q⟩ := h
    refine ⟨_, b__law_node_told Y (ok__law_leaf_told Y) (ok__law_part Y) hr, ?_⟩
    show t__law_node_told K _ _ _ [some (.str (S l)), none, none, none, none, none, none, none] H
    unfold t__law_node_told
    rw [show ("L" : Str) = S [76] from rfl, show ("I" : Str) = S [73] from rfl, show ("leaf" : Str) = S leafL from rfl, show ("inner" : Str) = S innerL from rfl]
    unfold nodeR at q
    walk_at "rd"
    refine ite2' (fun e => ?_) (fun e => ?_)
    · have e1 : l.take 1 = [76] := of_decide_eq_true e
      rw [if_pos e1, ndO_leaf] at q
      walk_at "rd"
      refine ⟨l, rfl, hT, hl, fun v H1 hS1 hv => ?_⟩
      walk_at "rd"
      generalize leafR l l.length 1 = o at hv q
      cases o with
      | none =>
        cases hv
        rw [decide_eq_true rfl]
        walk_at "rd"
        exact q _ _ hS1 .non
      | some es =>
        obtain ⟨p, us, rfl, hp, hus⟩ := dp_tup' hv
        rw [decide_eq_false (show ¬ V.ref p = .non from fun z => by cases z)]
        walk_at "rd"
        refine ⟨by show 2 ≤ sizeLine; decide, fun r hr' => ?_⟩
        have hSr := same_upd hr' (o := .tup [V.str (S leafL), .ref p])
        exact q _ _ (hS1.trans hSr) (.tup (tup_of upd_same) (.cons (.str _) (.cons (dp_mono hSr _ _ hv) .nil)))
    · have e1 : ¬ l.take 1 = [76] := of_decide_eq_false e
      rw [if_neg e1] at q
      walk_at "rd"
      refine ⟨l, 1, 1, rfl, hT, hl, by decide, by decide, fun H1 hS1 => ?_⟩
      walk_at "rd"
      refine ite2' (fun e => ?_) (fun e => ?_)
      · rw [Bool.not_eq_true'] at e
        have e2 : ¬ l.take 1 = [73] := of_decide_eq_false e
        walk_at "rd"
        rw [if_neg e2] at q
        exact q _ _ hS1 .non
      · rw [Bool.not_eq_false'] at e
        have e2 : l.take 1 = [73] := of_decide_eq_true e
        rw [if_pos e2, ndO_inner] at q
        have no : innerR l = none → ∀ H', Same H H' → Q .non H' := fun e H' hS => q _ _ hS (by rw [e]; exact .non)
        walk_at "rd"
        cases hm : numAt l 1 1 with
        | none =>
          have e0 : innerR l = none := by unfold innerR; rw [hm]
          rw [decide_eq_true (show pv' none < 1 by decide)]
          walk_at "rd"
          exact no e0 _ hS1
        | some m =>
          have hm10 := numAt_one hm
          rw [show pv' (some m) = (m : Int) from rfl]
          refine ite2' (fun e => ?_) (fun e => ?_)
          · have em : m = 0 := by have := of_decide_eq_true e; omega
            have e0 : innerR l = none := by unfold innerR; rw [hm]; exact if_pos em
            walk_at "rd"
            exact no e0 _ hS1
          · have em : m ≠ 0 := by have := of_decide_eq_false e; omega
            have eR : innerR l = match marksR l (m - 1) (2 + 4 * m) with
                | none => none
                | some (ms, a) => if a = l.length ∧ (kidsO l m).all Option.isSome = true then some (ms, (kidsO l m).map fun o => o.getD 0) else none := by
              unfold innerR
              rw [hm]
              exact if_neg em
            walk_at "rd"
            refine lcR1_mk (by omega) (by omega) (fun D i H' => Same H1 H' ∧ H' D = some (.lst ((((kidsO l m).take i).map pv').map V.int))) (fun D hD => ⟨same_upd hD, upd_same⟩) (fun D i H' hD hi hP => ?_) (fun D H2 hD hP => ?_)
            · obtain ⟨hS, hH⟩ := hP
              rw [Int.toNat_natCast] at hi
              refine ⟨rfl, ?_⟩
              walk_at "rd"
              refine m_ii (.inl (.inl (by decide))) ?_
              walk_at "rd"
              rw [show (2 : Int) + 4 * (i : Int) = ((2 + 4 * i : Nat) : Int) by omega]
              refine ⟨l, 2 + 4 * i, 4, rfl, hT, hl, by decide, by decide, fun H3 hS3 => ?_⟩
              have hk : (kidsO l m)[i]? = some (numAt l (2 + 4 * i) 4) := by
                unfold kidsO
                rw [List.getElem?_map, List.getElem?_range hi]
                rfl
              refine ⟨_, hS3 _ _ hH, Nat.lt_of_le_of_lt (show _ ≤ 20 by rw [List.length_map, List.length_map, List.length_take]; omega) (by decide), same_mut (hS.trans hS3) hD, ?_⟩
              rw [upd_same, take_snoc hk, List.map_append, List.map_append]
              rfl
            · obtain ⟨hS2, hH2⟩ := hP
              have hkl : (kidsO l m).length = m := by unfold kidsO; rw [List.length_map, List.length_range]
              rw [Int.toNat_natCast, List.take_of_length_le (by omega)] at hH2
              walk_at "rd"
              refine ⟨Nat.zero_le _, fun M hM => ?_⟩
              walk_at "rd"
              refine m_ii (.inl (.inl (by decide))) ?_
              walk_at "rd"
              have hS12 := hS1.trans hS2
              refine for1_mk (by omega) (by omega) (fun i σ H' => ∃ (a : Nat) (ms : List (List Nat)) (y4 y7 : Option V), σ = [some (.str (S l)), none, some (.int m), some (.ref D), y4, some (.ref M), some (.int a), y7] ∧ Same H2 H' ∧ H' M = some (.lst (tv ms)) ∧ ms.length ≤ i ∧ marksR l (m - 1) (2 + 4 * m) = (marksR l (m - 1 - i) a).map (fun r => (ms ++ r.1, r.2)))
                ⟨2 + 4 * m, [], none, none, ?_, same_upd hM, upd_same, Nat.le_refl _, ?_⟩ (fun i σ H' hi hV => ?_) (fun σ H' hV => ?_)
              · rw [show (2 : Int) + 4 * (m : Int) = ((2 + 4 * m : Nat) : Int) by omega]
              · rw [Nat.sub_zero]
                cases marksR l (m - 1) (2 + 4 * m) <;> rfl
              · obtain ⟨a, ms, y4, y7, rfl, hS3, hM3, hml, hR⟩ := hV
                have hi' : i < m - 1 := by omega
                walk_at "rd"
                refine ⟨l, a, 3, rfl, hT, hl, by decide, by decide, fun H4 hS4 => ?_⟩
                have stop : marksR l (m - 1) (2 + 4 * m) = none → Q .non H4 := fun e => no (by rw [eR, e]) _ ((hS12.trans hS3).trans hS4)
                have hM4 := hS4 _ _ hM3
                rw [show m - 1 - i = (m - 1 - (i + 1)) + 1 by omega, marksR] at hR
                walk_at "rd"
                cases hn : numAt l a 3 with
                | none =>
                  rw [hn] at hR
                  rw [decide_eq_true (show pv' none < 0 by decide)]
                  walk_at "rd"
                  exact stop hR
                | some x =>
                  rw [hn] at hR
                  have hR3 : marksR l (m - 1) (2 + 4 * m) = (if l.length < a + 3 + x then none else (marksR l (m - 1 - (i + 1)) (a + 3 + x)).map fun r => (cutL l (a + 3) (a + 3 + x) :: r.1, r.2)).map (fun r => (ms ++ r.1, r.2)) := hR
                  rw [show pv' (some x) = (x : Int) from rfl, decide_eq_false (show ¬ (x : Int) < 0 by omega)]
                  walk_at "rd"
                  refine ite2' (fun e => ?_) (fun e => ?_)
                  · have := of_decide_eq_true e
                    rw [if_pos (by omega)] at hR3
                    walk_at "rd"
                    exact stop hR3
                  · have hle := of_decide_eq_false e
                    rw [if_neg (by omega)] at hR3
                    walk_at "rd"
                    refine x_tyL (lst_of hM4) ?_
                    walk_at "rd"
                    refine ap_L hM4 (by rw [tv_len]; omega) ?_
                    walk_at "rd"
                    rw [show ((a : Int) + 3).toNat = a + 3 by omega, show ((a : Int) + 3 + x).toNat = a + 3 + x by omega, show (a : Int) + 3 + (x : Int) = ((a + 3 + x : Nat) : Int) by omega]
                    refine ⟨a + 3 + x, ms ++ [cutL l (a + 3) (a + 3 + x)], _, _, rfl, same_mut (hS3.trans hS4) hM, ?_, ?_, ?_⟩
                    · rw [upd_same, tv_app]
                      rfl
                    · rw [List.length_append]
                      exact Nat.succ_le_succ hml
                    · refine hR3.trans ?_
                      cases marksR l (m - 1 - (i + 1)) (a + 3 + x) with
                      | none => rfl
                      | some r => simp
              · obtain ⟨a, ms, y4, y7, rfl, hS3, hM3, hml, hR⟩ := hV
                have hS13 := hS12.trans hS3
                have hH3 := hS3 _ _ hH2
                have hz : m - 1 - ((m : Int) - 1).toNat = 0 := by omega
                rw [hz] at hR
                have hR2 : marksR l (m - 1) (2 + 4 * m) = some (ms, a) := by
                  rw [hR]
                  show some (ms ++ [], a) = _
                  rw [List.append_nil]
                rw [hR2] at eR
                have eR' : innerR l = if a = l.length ∧ (kidsO l m).all Option.isSome = true then some (ms, (kidsO l m).map fun o => o.getD 0) else none := eR
                walk_at "rd"
                refine mn_L (lst_of hH3) (by rw [List.length_map, hkl]; omega) fun z hz1 hz2 => ?_
                have hzm := kids_min hz1 hz2
                walk_at "rd"
                rw [hzm]
                refine ite2' (fun e => ?_) (fun e => ?_)
                · walk_at "rd"
                  refine no (eR'.trans (if_neg fun z => by rw [z.2] at e; cases e)) _ hS13
                · have hall : (kidsO l m).all Option.isSome = true := by
                    cases h : (kidsO l m).all Option.isSome with
                    | true => rfl
                    | false => rw [h] at e; cases e
                  walk_at "rd"
                  refine ite2' (fun e => ?_) (fun e => ?_)
                  · rw [Bool.not_eq_true'] at e
                    have e5 : a ≠ l.length := by have := of_decide_eq_false e; omega
                    walk_at "rd"
                    exact no (eR'.trans (if_neg fun z => e5 z.1)) _ hS13
                  · rw [Bool.not_eq_false'] at e
                    have e5 : a = l.length := by have := of_decide_eq_true e; omega
                    rw [if_pos ⟨e5, hall⟩] at eR'
                    walk_at "rd"
                    refine tu_L (lst_of hM3) fun b hb => ?_
                    have hSb := same_upd hb (o := .tup (tv ms))
                    walk_at "rd"
                    refine tu_L (lst_of (hSb _ _ hH3)) fun c hc => ?_
                    have hSc := same_upd hc (o := .tup (((kidsO l m).map pv').map V.int))
                    walk_at "rd"
                    refine ⟨by show 3 ≤ sizeLine; decide, fun r hr' => ?_⟩
                    have hSr := same_upd hr' (o := .tup [V.str (S innerL), .ref b, .ref c])
                    rw [eR'] at q
                    refine q _ _ (((hS13.trans hSb).trans hSc).trans hSr) (.tup (tup_of upd_same) (.cons (.str _) (.cons (.tup (same_sqt (hSc.trans hSr) (tup_of upd_same)) (dp_strs _ ms)) (.cons (.tup (same_sqt hSr (tup_of upd_same)) ?_) .nil))))
                    rw [pv_all _ hall]
                    exact nullV _ hall _
end
end My

set_option Elab.async false
set_option linter.all false
set_option maxRecDepth 100000
set_option maxHeartbeats 1000000
namespace My
open PySem PySem.Spec PyProof.Rows L2
local macro_rules | `(tactic| walk_at "len") => `(tactic| first | assumption | omega | decide | (simp only [List.length_append, List.length_take, List.length_drop, List.length_cons, List.length_nil, List.length_replicate]; omega))
local macro_rules | `(tactic| walk_at "side") => `(tactic| first | assumption | exact Nat.zero_le _ | decide | omega)
local macro_rules | `(tactic| walk_at "rd1") => `(tactic| first
  | with_reducible refine s_seq ?_
  | with_reducible refine x_gsub ?_
  | with_reducible refine s_asg ?_
  | ((with_reducible refine s_gn ?_); dsimp only [List.set])
  | ((with_reducible refine x_var (v := ?rdv) ?rdhv ?_); (case rdhv => rfl))
  | with_reducible refine x_c ?_
  | with_reducible refine x_op ?_
  | with_reducible refine x_cons ?_
  | with_reducible refine x_nil ?_
  | with_reducible refine x_cb ?_
  | with_reducible refine x_call ?_
  | with_reducible refine s_if ?_
  | with_reducible refine s_ret ?_
  | with_reducible refine s_retN ?_
  | with_reducible refine s_next ?_
  | with_reducible refine s_brk ?_
  | with_reducible refine s_cont ?_
  | with_reducible refine s_drop ?_
  | with_reducible refine s_par ?_
  | with_reducible refine s_par3 ?_
  | ((with_reducible refine s_p2 ?_); dsimp only [List.set])
  | ((with_reducible refine s_p3 ?_); dsimp only [List.set])
  | with_reducible refine f_r1 ?_
  | with_reducible refine f_r2 ?_
  | with_reducible refine f_l ?_
  | with_reducible refine f_t ?_
  | with_reducible refine f_s ?_
  | with_reducible refine c_r1 ?_
  | with_reducible refine c_r2 ?_
  | with_reducible refine c_l ?_
  | with_reducible refine c_t ?_
  | with_reducible refine c_s ?_
  | with_reducible refine x_tst ?_
  | with_reducible refine x_tru ?_
  | with_reducible refine x_truB ?_
  | with_reducible refine x_bl2 ?_
  | with_reducible refine x_int ?_
  | with_reducible refine x_str ?_
  | with_reducible refine x_not ?_
  | with_reducible refine x_and ?_
  | with_reducible refine x_or ?_
  | with_reducible refine x_andV ?_
  | with_reducible refine x_orV ?_
  | with_reducible refine x_notV ?_
  | with_reducible refine x_if ?_
  | with_reducible refine x_yes ?_
  | with_reducible refine x_un ?_
  | with_reducible refine x_tup ?_
  | with_reducible refine x_lst ?_
  | with_reducible refine x_callK ?_
  | with_reducible refine x_callK0 ?_
  | with_reducible refine x_bm ?_
  | with_reducible refine x_bm0 ?_
  | with_reducible refine x_tyS ?_
  | with_reducible refine x_sl ?_
  | with_reducible refine x_nopart ?_
  | with_reducible refine x_part ?_
  | with_reducible refine x_fmt0 ?_
  | with_reducible refine x_gc ?_
  | with_reducible refine x_gz ?_
  | with_reducible refine x_ckw ?_
  | with_reducible refine x_fmt ?_
  | with_reducible refine x_chain ?_
  | with_reducible refine a_ii ?_
  | ((with_reducible refine sl_to ?rda ?rdb ?_); (case rda => walk_at "len"); (case rdb => walk_at "len"))
  | ((with_reducible refine sl_from ?rda ?rdb ?_); (case rda => walk_at "len"); (case rdb => walk_at "len"))
  | ((with_reducible refine sl_mid ?rda ?rdb ?rdc ?_); (case rda => walk_at "len"); (case rdb => walk_at "len"); (case rdc => walk_at "len"))
  | ((with_reducible refine a_SS ?rda ?_); (case rda => walk_at "len"))
  | ((with_reducible refine ln_S ?rda ?_); (case rda => walk_at "len"))
  | with_reducible refine e_SS ?_
  | with_reducible refine ne_SS ?_
  | with_reducible refine s_ii ?_
  | ((with_reducible refine md_ii ?rdc ?_); (case rdc => first | decide | assumption | omega))
  | with_reducible refine n_i ?_
  | with_reducible refine e_ii ?_
  | with_reducible refine e_bb ?_
  | with_reducible refine ne_ii ?_
  | with_reducible refine ne_bb ?_
  | with_reducible refine lt_ii ?_
  | with_reducible refine lt_ss ?_
  | with_reducible refine le_ii ?_
  | with_reducible refine gt_ii ?_
  | with_reducible refine gt_ss ?_
  | with_reducible refine ge_ii ?_
  | with_reducible refine e_ss ?_
  | with_reducible refine ne_ss ?_
  | with_reducible refine is_N ?_
  | with_reducible refine is_T ?_
  | with_reducible refine is_B ?_
  | with_reducible refine isn_N ?_
  | with_reducible refine isn_T ?_
  | with_reducible refine isn_B ?_
  | with_reducible refine in_s ?_
  | with_reducible refine nin_s ?_
  | with_reducible refine i_i ?_
  | with_reducible refine i_b ?_
  | with_reducible refine ab_i ?_
  | with_reducible refine mx_ii ?_
  | with_reducible refine mn_ii ?_
  | with_reducible refine ty_N ?_
  | with_reducible refine ty_B ?_
  | with_reducible refine ty_I ?_
  | with_reducible refine ty_S ?_
  | with_reducible refine ma_s ?_
  | with_reducible refine mp_s ?_
  | with_reducible refine mdg_s ?_
  | with_reducible refine mf_s ?_
  | with_reducible refine iteT ?_
  | with_reducible refine iteF ?_
  | with_reducible refine iteNt ?_
  | with_reducible refine iteNf ?_
  | with_reducible refine iteTd (by decide) ?_
  | with_reducible refine iteFd (by decide) ?_
  | with_reducible refine iteNd (by decide) ?_
  | with_reducible refine iteNdF (by decide) ?_
  | ((with_reducible refine iteFd ?rdn ?_); (case rdn => (intro rdz; cases rdz; done)))
  | ((with_reducible refine iteNdF ?rdn ?_); (case rdn => (intro rdz; cases rdz; done))))
local macro_rules | `(tactic| walk_at "rd") => `(tactic| (repeat walk_at "rd1"))
section
variable {P : Program} {w : World} {K : PySem.W.Frag} {mg : Str → Option Value} {base : Heap}
/-! texts of a length, texts put together -/
def sp__law_full (K : PySem.W.Frag) : Sp := fun vs H Q _ => ∃ (f c : Addr) (n t : Nat), vs = [.ref f, .int n] ∧ FlowAt H f c t ∧ t + 8 < 2 ^ 60 ∧ n ≤ 1000 ∧ ∀ l H', l.length = n → isT l = true → FlowAt H' f c (t + 8) → Frm f c H H' → Q (.str (S l)) H'
theorem ok__law_full (Y : Fx K mg) : FnOk P w K mg base CX0 4 Y.a__law_full Y.fd__law_full ["_law_flow_here", "_law_long"] (sp__law_full K) := by
  refine Y.F__law_full.ok sc__law_full (fun vs H Q E h => ?_) (fun cdv A outer st H vs Q E hr h => ?_)
  · obtain ⟨f, c, n, t, rfl, _⟩ := h
    rfl
  · obtain ⟨f, c, n, t, rfl, hFl, ht, hn, q⟩ := h
    refine ⟨_, b__law_full Y (ok__law_text Y) hr, ?_⟩
    show t__law_full K _ _ [some (.ref f), some (.int n)] H
    unfold t__law_full
    rw [show ("q" : Str) = S [113] from rfl]
    walk_at "rd"
    refine ⟨f, c, 9, t, rfl, hFl, ht, by decide, fun l H1 hl hT hFl1 hF1 => ?_⟩
    walk_at "rd"
    refine m_SI (by omega) (by omega) (by rw [Int.toNat_natCast, List.length_singleton]; omega) ?_
    rw [rep1, Int.toNat_natCast]
    have r1 : (List.replicate n 113).length = n := List.length_replicate
    have r2 : isT (List.replicate n 113) = true := rep1_isT (by decide)
    generalize List.replicate n 113 = rp at r1 r2
    walk_at "rd"
    rw [Int.toNat_natCast]
    refine q _ H1 ?_ (isT_take _ (by rw [isT_app, hT, r2]; rfl)) hFl1 hF1
    rw [List.length_take, List.length_append]
    omega
def sp__law_put_together (K : PySem.W.Frag) : Sp := fun vs H Q _ => ∃ (f c : Addr) (t : Nat), vs = [.ref f] ∧ FlowAt H f c t ∧ t + 40 < 2 ^ 60 ∧ ∀ l H', l.length ≤ 40 → isT l = true → FlowAt H' f c (t + 40) → Frm f c H H' → Q (.str (S l)) H'
theorem ok__law_put_together (Y : Fx K mg) : FnOk P w K mg base CX0 2 Y.a__law_put_together Y.fd__law_put_together ["_law_flow_here"] (sp__law_put_together K) := by
  refine Y.F__law_put_together.ok sc__law_put_together (fun vs H Q E h => ?_) (fun cdv A outer st H vs Q E hr h => ?_)
  · obtain ⟨f, c, t, rfl, _⟩ := h
    rfl
  · obtain ⟨f, c, t, rfl, hFl, ht, q⟩ := h
    refine ⟨_, b__law_put_together Y (ok__law_draw Y) hr, ?_⟩
    show t__law_put_together K _ _ [some (.ref f), none, none] H
    unfold t__law_put_together
    walk_at "rd"
    refine ⟨by show 8 ≤ sizeLine; decide, fun p1 hp1 => ?_⟩
    walk_at "rd"
    refine ⟨f, c, 8, t, rfl, hFl.new hp1, by omega, by decide, by decide, fun r1 H1 r10 r11 hFl1 hF1 => ?_⟩
    obtain ⟨o1, o2⟩ := hFl.off hp1
    have hF01 := ((Frm.refl H).new hp1).trans hF1
    refine ix_txt (n := 2) (lst_of (hF1 p1 _ o1 o2 upd_same)) (txt_cons (l := [76]) (by decide) (by decide) (txt_cons (l := [73]) (by decide) (by decide) (txt_cons (l := [73, 49]) (by decide) (by decide) (txt_cons (l := [73, 50]) (by decide) (by decide) (txt_cons (l := [73, 51]) (by decide) (by decide) (txt_cons (l := []) (by decide) (by decide) (txt_cons (l := [108]) (by decide) (by decide) (txt_cons (l := [73, 48]) (by decide) (by decide) txt_nil)))))))) r10 r11 fun l0 hl0 hT0 => ?_
    walk_at "rd"
    refine ⟨f, c, 30, t + 1, rfl, hFl1, by omega, by decide, by decide, fun r2 H2 r20 r21 hFl2 hF2 => ?_⟩
    have hF02 := hF01.trans hF2
    walk_at "rd"
    refine for1_mk (by omega) (by omega) (fun i σ H' => ∃ (l : List Nat) (y2 : Option V), σ = [some (.ref f), some (.str (S l)), y2] ∧ l.length ≤ 2 + i ∧ isT l = true ∧ FlowAt H' f c (t + 2 + i) ∧ Frm f c H H') ⟨l0, none, rfl, hl0, hT0, hFl2, hF02⟩ (fun i σ H' hi hV => ?_) (fun σ H' hV => ?_)
    · obtain ⟨l, y2, rfl, hl, hT, hFl', hF'⟩ := hV
      walk_at "rd"
      refine ⟨by show 8 ≤ sizeLine; decide, fun p3 hp3 => ?_⟩
      walk_at "rd"
      refine ⟨f, c, 8, t + 2 + i, rfl, hFl'.new hp3, by omega, by decide, by decide, fun r3 H3 r30 r31 hFl3 hF3 => ?_⟩
      obtain ⟨v1, v2⟩ := hFl'.off hp3
      refine ix_txt (n := 1) (lst_of (hF3 p3 _ v1 v2 upd_same)) (txt_cons (l := [48]) (by decide) (by decide) (txt_cons (l := [48]) (by decide) (by decide) (txt_cons (l := [48]) (by decide) (by decide) (txt_cons (l := [48]) (by decide) (by decide) (txt_cons (l := [49]) (by decide) (by decide) (txt_cons (l := [50]) (by decide) (by decide) (txt_cons (l := [97]) (by decide) (by decide) (txt_cons (l := [32]) (by decide) (by decide) txt_nil)))))))) r30 r31 fun l1 hl1 hT1 => ?_
      walk_at "rd"
      refine ⟨l ++ l1, _, rfl, by rw [List.length_append]; omega, by rw [isT_app, hT, hT1]; rfl, hFl3, (hF'.new hp3).trans hF3⟩
    · obtain ⟨l, y2, rfl, hl, hT, hFl', hF'⟩ := hV
      walk_at "rd"
      exact q l H' (by omega) hT (hFl'.le (by omega)) hF'
end
end My

set_option Elab.async false
set_option linter.all false
set_option maxRecDepth 100000
set_option maxHeartbeats 1000000
namespace My
open PySem PySem.Spec PyProof.Rows L2
local macro_rules | `(tactic| walk_at "len") => `(tactic| first | assumption | omega | decide | (simp only [List.length_append, List.length_take, List.length_drop, List.length_cons, List.length_nil, List.length_replicate]; omega))
local macro_rules | `(tactic| walk_at "side") => `(tactic| first | assumption | exact Nat.zero_le _ | decide | omega)
local macro_rules | `(tactic| walk_at "rd1") => `(tactic| first
  | with_reducible refine s_seq ?_
  | with_reducible refine x_gsub ?_
  | with_reducible refine s_asg ?_
  | ((with_reducible refine s_gn ?_); dsimp only [List.set])
  | ((with_reducible refine x_var (v := ?rdv) ?rdhv ?_); (case rdhv => rfl))
  | with_reducible refine x_c ?_
  | with_reducible refine x_op ?_
  | with_reducible refine x_cons ?_
  | with_reducible refine x_nil ?_
  | with_reducible refine x_cb ?_
  | with_reducible refine x_call ?_
  | with_reducible refine s_if ?_
  | with_reducible refine s_ret ?_
  | with_reducible refine s_retN ?_
  | with_reducible refine s_next ?_
  | with_reducible refine s_brk ?_
  | with_reducible refine s_cont ?_
  | with_reducible refine s_drop ?_
  | with_reducible refine s_par ?_
  | with_reducible refine s_par3 ?_
  | ((with_reducible refine s_p2 ?_); dsimp only [List.set])
  | ((with_reducible refine s_p3 ?_); dsimp only [List.set])
  | with_reducible refine f_r1 ?_
  | with_reducible refine f_r2 ?_
  | with_reducible refine f_l ?_
  | with_reducible refine f_t ?_
  | with_reducible refine f_s ?_
  | with_reducible refine c_r1 ?_
  | with_reducible refine c_r2 ?_
  | with_reducible refine c_l ?_
  | with_reducible refine c_t ?_
  | with_reducible refine c_s ?_
  | with_reducible refine x_tst ?_
  | with_reducible refine x_tru ?_
  | with_reducible refine x_truB ?_
  | with_reducible refine x_bl2 ?_
  | with_reducible refine x_int ?_
  | with_reducible refine x_str ?_
  | with_reducible refine x_not ?_
  | with_reducible refine x_and ?_
  | with_reducible refine x_or ?_
  | with_reducible refine x_andV ?_
  | with_reducible refine x_orV ?_
  | with_reducible refine x_notV ?_
  | with_reducible refine x_if ?_
  | with_reducible refine x_yes ?_
  | with_reducible refine x_un ?_
  | with_reducible refine x_tup ?_
  | with_reducible refine x_lst ?_
  | with_reducible refine x_callK ?_
  | with_reducible refine x_callK0 ?_
  | with_reducible refine x_bm ?_
  | with_reducible refine x_bm0 ?_
  | with_reducible refine x_tyS ?_
  | with_reducible refine x_sl ?_
  | with_reducible refine x_nopart ?_
  | with_reducible refine x_part ?_
  | with_reducible refine x_fmt0 ?_
  | with_reducible refine x_gc ?_
  | with_reducible refine x_gz ?_
  | with_reducible refine x_ckw ?_
  | with_reducible refine x_fmt ?_
  | with_reducible refine x_chain ?_
  | with_reducible refine a_ii ?_
  | ((with_reducible refine sl_to ?rda ?rdb ?_); (case rda => walk_at "len"); (case rdb => walk_at "len"))
  | ((with_reducible refine sl_from ?rda ?rdb ?_); (case rda => walk_at "len"); (case rdb => walk_at "len"))
  | ((with_reducible refine sl_mid ?rda ?rdb ?rdc ?_); (case rda => walk_at "len"); (case rdb => walk_at "len"); (case rdc => walk_at "len"))
  | ((with_reducible refine a_SS ?rda ?_); (case rda => walk_at "len"))
  | ((with_reducible refine ln_S ?rda ?_); (case rda => walk_at "len"))
  | with_reducible refine e_SS ?_
  | with_reducible refine ne_SS ?_
  | with_reducible refine s_ii ?_
  | ((with_reducible refine md_ii ?rdc ?_); (case rdc => first | decide | assumption | omega))
  | with_reducible refine n_i ?_
  | with_reducible refine e_ii ?_
  | with_reducible refine e_bb ?_
  | with_reducible refine ne_ii ?_
  | with_reducible refine ne_bb ?_
  | with_reducible refine lt_ii ?_
  | with_reducible refine lt_ss ?_
  | with_reducible refine le_ii ?_
  | with_reducible refine gt_ii ?_
  | with_reducible refine gt_ss ?_
  | with_reducible refine ge_ii ?_
  | with_reducible refine e_ss ?_
  | with_reducible refine ne_ss ?_
  | with_reducible refine is_N ?_
  | with_reducible refine is_T ?_
  | with_reducible refine is_B ?_
  | with_reducible refine isn_N ?_
  | with_reducible refine isn_T ?_
  | with_reducible refine isn_B ?_
  | with_reducible refine in_s ?_
  | with_reducible refine nin_s ?_
  | with_reducible refine i_i ?_
  | with_reducible refine i_b ?_
  | with_reducible refine ab_i ?_
  | with_reducible refine mx_ii ?_
  | with_reducible refine mn_ii ?_
  | with_reducible refine ty_N ?_
  | with_reducible refine ty_B ?_
  | with_reducible refine ty_I ?_
  | with_reducible refine ty_S ?_
  | with_reducible refine ma_s ?_
  | with_reducible refine mp_s ?_
  | with_reducible refine mdg_s ?_
  | with_reducible refine mf_s ?_
  | with_reducible refine iteT ?_
  | with_reducible refine iteF ?_
  | with_reducible refine iteNt ?_
  | with_reducible refine iteNf ?_
  | with_reducible refine iteTd (by decide) ?_
  | with_reducible refine iteFd (by decide) ?_
  | with_reducible refine iteNd (by decide) ?_
  | with_reducible refine iteNdF (by decide) ?_
  | ((with_reducible refine iteFd ?rdn ?_); (case rdn => (intro rdz; cases rdz; done)))
  | ((with_reducible refine iteNdF ?rdn ?_); (case rdn => (intro rdz; cases rdz; done))))
local macro_rules | `(tactic| walk_at "rd") => `(tactic| (repeat walk_at "rd1"))
/-! what was written is told back -/
theorem mid {A B C : List Nat} {i j : Nat} (hi : A.length = i) (hj : i + B.length = j) : ((A ++ (B ++ C)).take j).drop i = B := by
  rw [← List.append_assoc, List.take_left' (by rw [List.length_append, hi]; exact hj), List.drop_left' hi]
theorem numAt_mid {A B C : List Nat} {a k : Nat} (ha : A.length = a) (hk : B.length = k) (h0 : k ≠ 0) (hD : isD B = true) : numAt (A ++ (B ++ C)) a k = some (NumText.digitsVal B) := by
  unfold numAt
  rw [mid ha (by rw [hk]), if_pos ⟨hk, h0, hD⟩]
theorem numAt_pad {A C : List Nat} {a w n : Nat} (ha : A.length = a) (h0 : w ≠ 0) (hn : n < 10 ^ w) : numAt (A ++ (pad w n ++ C)) a w = some n := by
  rw [pad_figs w n hn (Nat.pos_of_ne_zero h0), numAt_mid ha (figs_len w n) h0 (figs_isD w n), digitsVal_figs w n hn]
theorem pad_lenW {w n : Nat} (h0 : w ≠ 0) (hn : n < 10 ^ w) : (pad w n).length = w := by
  rw [pad_figs w n hn (Nat.pos_of_ne_zero h0), figs_len]
theorem leafR_told : ∀ (es : List (List Nat × List Nat)) (A : List Nat) (n : Nat), (∀ e ∈ es, e.1.length < 1000 ∧ e.2.length < 1000) → ((es.map enT).flatten).length ≤ n → leafR (A ++ (es.map enT).flatten) n A.length = some es
  | [], A, n, _, _ => leafR_end (by simp)
  | e :: es, A, n, h, hn => by
    obtain ⟨hk, hv⟩ := h e (List.mem_cons_self ..)
    have p1 := pad_lenW (w := 3) (n := e.1.length) (by decide) (by omega)
    have p2 := pad_lenW (w := 3) (n := e.2.length) (by decide) (by omega)
    have hel : (enT e).length = 6 + e.1.length + e.2.length := by
      unfold enT
      simp only [List.length_append, p1, p2]
    rw [List.map_cons, List.flatten_cons] at hn ⊢
    rw [List.length_append, hel] at hn
    obtain ⟨n', rfl⟩ : ∃ n', n = n' + 1 := ⟨n - 1, by omega⟩
    generalize hR : (es.map enT).flatten = R at hn
    have e1 : A ++ (enT e ++ R) = A ++ (pad 3 e.1.length ++ (pad 3 e.2.length ++ (e.1 ++ (e.2 ++ R)))) := by
      unfold enT
      simp only [List.append_assoc]
    have e2 : A ++ (enT e ++ R) = (A ++ pad 3 e.1.length) ++ (pad 3 e.2.length ++ (e.1 ++ (e.2 ++ R))) := by
      rw [e1, List.append_assoc]
    have e3 : A ++ (enT e ++ R) = (A ++ pad 3 e.1.length ++ pad 3 e.2.length) ++ (e.1 ++ (e.2 ++ R)) := by
      rw [e2]
      simp only [List.append_assoc]
    have e4 : A ++ (enT e ++ R) = (A ++ pad 3 e.1.length ++ pad 3 e.2.length ++ e.1) ++ (e.2 ++ R) := by
      rw [e3]
      simp only [List.append_assoc]
    have e5 : A ++ (enT e ++ R) = (A ++ enT e) ++ R := by rw [List.append_assoc]
    have n1 : numAt (A ++ (enT e ++ R)) A.length 3 = some e.1.length := by
      rw [e1]
      exact numAt_pad rfl (by decide) (by omega)
    have n2 : numAt (A ++ (enT e ++ R)) (A.length + 3) 3 = some e.2.length := by
      rw [e2]
      exact numAt_pad (by rw [List.length_append, p1]) (by decide) (by omega)
    have c1 : cutL (A ++ (enT e ++ R)) (A.length + 6) (A.length + 6 + e.1.length) = e.1 := by
      rw [e3]
      exact mid (by rw [List.length_append, List.length_append, p1, p2]) rfl
    have c2 : cutL (A ++ (enT e ++ R)) (A.length + 6 + e.1.length) (A.length + 6 + e.1.length + e.2.length) = e.2 := by
      rw [e4]
      exact mid (by rw [List.length_append, List.length_append, List.length_append, p1, p2]) rfl
    have hlen : (A ++ (enT e ++ R)).length = A.length + (6 + e.1.length + e.2.length + R.length) := by
      rw [List.length_append, List.length_append, hel]
    have ih := leafR_told es (A ++ enT e) n' (fun x hx => h x (List.mem_cons_of_mem _ hx)) (by rw [hR]; omega)
    rw [hR, List.length_append, hel, ← e5] at ih
    rw [leafR, if_pos (by rw [hlen]; omega), n1, n2]
    show (if (A ++ (enT e ++ R)).length < A.length + 6 + e.1.length + e.2.length then none else (leafR (A ++ (enT e ++ R)) n' (A.length + 6 + e.1.length + e.2.length)).map fun r => (cutL (A ++ (enT e ++ R)) (A.length + 6) (A.length + 6 + e.1.length), cutL (A ++ (enT e ++ R)) (A.length + 6 + e.1.length) (A.length + 6 + e.1.length + e.2.length)) :: r) = _
    rw [if_neg (by rw [hlen]; omega), c1, c2, show A.length + 6 + e.1.length + e.2.length = A.length + (6 + e.1.length + e.2.length) by omega, ih]
    rfl
theorem nodeR_leaf {es : List (List Nat × List Nat)} (h : ∀ e ∈ es, e.1.length < 1000 ∧ e.2.length < 1000) : nodeR (ndT (.leaf es)) = some (.leaf es) := by
  unfold nodeR
  have e : (ndT (.leaf es)).take 1 = [76] := rfl
  rw [if_pos e]
  have e2 := leafR_told es [76] (ndT (.leaf es)).length h (by
    show _ ≤ ([76] ++ (es.map enT).flatten).length
    rw [List.length_append]
    omega)
  show (leafR ([76] ++ (es.map enT).flatten) (ndT (.leaf es)).length 1).map Nd.leaf = _
  rw [show (1 : Nat) = [76].length from rfl, e2]
  rfl
end My

set_option Elab.async false
set_option linter.all false
set_option maxRecDepth 100000
set_option maxHeartbeats 1000000
namespace My
open PySem PySem.Spec PyProof.Rows L2
local macro_rules | `(tactic| walk_at "len") => `(tactic| first | assumption | omega | decide | (simp only [List.length_append, List.length_take, List.length_drop, List.length_cons, List.length_nil, List.length_replicate]; omega))
local macro_rules | `(tactic| walk_at "side") => `(tactic| first | assumption | exact Nat.zero_le _ | decide | omega)
local macro_rules | `(tactic| walk_at "rd1") => `(tactic| first
  | with_reducible refine s_seq ?_
  | with_reducible refine x_gsub ?_
  | with_reducible refine s_asg ?_
  | ((with_reducible refine s_gn ?_); dsimp only [List.set])
  | ((with_reducible refine x_var (v := ?rdv) ?rdhv ?_); (case rdhv => rfl))
  | with_reducible refine x_c ?_
  | with_reducible refine x_op ?_
  | with_reducible refine x_cons ?_
  | with_reducible refine x_nil ?_
  | with_reducible refine x_cb ?_
  | with_reducible refine x_call ?_
  | with_reducible refine s_if ?_
  | with_reducible refine s_ret ?_
  | with_reducible refine s_retN ?_
  | with_reducible refine s_next ?_
  | with_reducible refine s_brk ?_
  | with_reducible refine s_cont ?_
  | with_reducible refine s_drop ?_
  | with_reducible refine s_par ?_
  | with_reducible refine s_par3 ?_
  | ((with_reducible refine s_p2 ?_); dsimp only [List.set])
  | ((with_reducible refine s_p3 ?_); dsimp only [List.set])
  | with_reducible refine f_r1 ?_
  | with_reducible refine f_r2 ?_
  | with_reducible refine f_l ?_
  | with_reducible refine f_t ?_
  | with_reducible refine f_s ?_
  | with_reducible refine c_r1 ?_
  | with_reducible refine c_r2 ?_
  | with_reducible refine c_l ?_
  | with_reducible refine c_t ?_
  | with_reducible refine c_s ?_
  | with_reducible refine x_tst ?_
  | with_reducible refine x_tru ?_
  | with_reducible refine x_truB ?_
  | with_reducible refine x_bl2 ?_
  | with_reducible refine x_int ?_
  | with_reducible refine x_str ?_
  | with_reducible refine x_not ?_
  | with_reducible refine x_and ?_
  | with_reducible refine x_or ?_
  | with_reducible refine x_andV ?_
  | with_reducible refine x_orV ?_
  | with_reducible refine x_notV ?_
  | with_reducible refine x_if ?_
  | with_reducible refine x_yes ?_
  | with_reducible refine x_un ?_
  | with_reducible refine x_tup ?_
  | with_reducible refine x_lst ?_
  | with_reducible refine x_callK ?_
  | with_reducible refine x_callK0 ?_
  | with_reducible refine x_bm ?_
  | with_reducible refine x_bm0 ?_
  | with_reducible refine x_tyS ?_
  | with_reducible refine x_sl ?_
  | with_reducible refine x_nopart ?_
  | with_reducible refine x_part ?_
  | with_reducible refine x_fmt0 ?_
  | with_reducible refine x_gc ?_
  | with_reducible refine x_gz ?_
  | with_reducible refine x_ckw ?_
  | with_reducible refine x_fmt ?_
  | with_reducible refine x_chain ?_
  | with_reducible refine a_ii ?_
  | ((with_reducible refine sl_to ?rda ?rdb ?_); (case rda => walk_at "len"); (case rdb => walk_at "len"))
  | ((with_reducible refine sl_from ?rda ?rdb ?_); (case rda => walk_at "len"); (case rdb => walk_at "len"))
  | ((with_reducible refine sl_mid ?rda ?rdb ?rdc ?_); (case rda => walk_at "len"); (case rdb => walk_at "len"); (case rdc => walk_at "len"))
  | ((with_reducible refine a_SS ?rda ?_); (case rda => walk_at "len"))
  | ((with_reducible refine ln_S ?rda ?_); (case rda => walk_at "len"))
  | with_reducible refine e_SS ?_
  | with_reducible refine ne_SS ?_
  | with_reducible refine s_ii ?_
  | ((with_reducible refine md_ii ?rdc ?_); (case rdc => first | decide | assumption | omega))
  | with_reducible refine n_i ?_
  | with_reducible refine e_ii ?_
  | with_reducible refine e_bb ?_
  | with_reducible refine ne_ii ?_
  | with_reducible refine ne_bb ?_
  | with_reducible refine lt_ii ?_
  | with_reducible refine lt_ss ?_
  | with_reducible refine le_ii ?_
  | with_reducible refine gt_ii ?_
  | with_reducible refine gt_ss ?_
  | with_reducible refine ge_ii ?_
  | with_reducible refine e_ss ?_
  | with_reducible refine ne_ss ?_
  | with_reducible refine is_N ?_
  | with_reducible refine is_T ?_
  | with_reducible refine is_B ?_
  | with_reducible refine isn_N ?_
  | with_reducible refine isn_T ?_
  | with_reducible refine isn_B ?_
  | with_reducible refine in_s ?_
  | with_reducible refine nin_s ?_
  | with_reducible refine i_i ?_
  | with_reducible refine i_b ?_
  | with_reducible refine ab_i ?_
  | with_reducible refine mx_ii ?_
  | with_reducible refine mn_ii ?_
  | with_reducible refine ty_N ?_
  | with_reducible refine ty_B ?_
  | with_reducible refine ty_I ?_
  | with_reducible refine ty_S ?_
  | with_reducible refine ma_s ?_
  | with_reducible refine mp_s ?_
  | with_reducible refine mdg_s ?_
  | with_reducible refine mf_s ?_
  | with_reducible refine iteT ?_
  | with_reducible refine iteF ?_
  | with_reducible refine iteNt ?_
  | with_reducible refine iteNf ?_
  | with_reducible refine iteTd (by decide) ?_
  | with_reducible refine iteFd (by decide) ?_
  | with_reducible refine iteNd (by decide) ?_
  | with_reducible refine iteNdF (by decide) ?_
  | ((with_reducible refine iteFd ?rdn ?_); (case rdn => (intro rdz; cases rdz; done)))
  | ((with_reducible refine iteNdF ?rdn ?_); (case rdn => (intro rdz; cases rdz; done))))
local macro_rules | `(tactic| walk_at "rd") => `(tactic| (repeat walk_at "rd1"))
theorem kid_told : ∀ (ks : List Nat) (A C : List Nat) (j k : Nat), (∀ k ∈ ks, k < 10000) → ks[j]? = some k → numAt (A ++ ((ks.map (pad 4)).flatten ++ C)) (A.length + 4 * j) 4 = some k
  | [], A, C, j, k, _, h => by cases h
  | x :: ks, A, C, 0, k, hk, h => by
    cases h
    rw [List.map_cons, List.flatten_cons, List.append_assoc]
    exact numAt_pad rfl (by decide) (hk _ (List.mem_cons_self ..))
  | x :: ks, A, C, j + 1, k, hk, h => by
    have p := pad_lenW (w := 4) (n := x) (by decide) (hk x (List.mem_cons_self ..))
    have ih := kid_told ks (A ++ pad 4 x) C j k (fun z hz => hk z (List.mem_cons_of_mem _ hz)) h
    rw [List.length_append, p] at ih
    rw [List.map_cons, List.flatten_cons, List.append_assoc, ← List.append_assoc A, show A.length + 4 * (j + 1) = A.length + 4 + 4 * j by omega]
    exact ih
theorem kids_len {ks : List Nat} (hk : ∀ k ∈ ks, k < 10000) : ((ks.map (pad 4)).flatten).length = 4 * ks.length := by
  induction ks with
  | nil => rfl
  | cons x ks ih =>
    rw [List.map_cons, List.flatten_cons, List.length_append, pad_lenW (w := 4) (n := x) (by decide) (hk x (List.mem_cons_self ..)), ih fun z hz => hk z (List.mem_cons_of_mem _ hz), List.length_cons]
    omega
theorem marksR_told : ∀ (ms : List (List Nat)) (A : List Nat), (∀ m ∈ ms, m.length < 1000) → marksR (A ++ (ms.map mkT).flatten) ms.length A.length = some (ms, (A ++ (ms.map mkT).flatten).length)
  | [], A, _ => by simp [marksR]
  | m :: ms, A, h => by
    have hm := h m (List.mem_cons_self ..)
    have p1 := pad_lenW (w := 3) (n := m.length) (by decide) (by omega)
    have hml : (mkT m).length = 3 + m.length := by
      unfold mkT
      rw [List.length_append, p1]
    rw [List.map_cons, List.flatten_cons]
    generalize hR : (ms.map mkT).flatten = R
    have e1 : A ++ (mkT m ++ R) = A ++ (pad 3 m.length ++ (m ++ R)) := by
      unfold mkT
      simp only [List.append_assoc]
    have e2 : A ++ (mkT m ++ R) = (A ++ pad 3 m.length) ++ (m ++ R) := by
      rw [e1, List.append_assoc]
    have e3 : A ++ (mkT m ++ R) = (A ++ mkT m) ++ R := by rw [List.append_assoc]
    have n1 : numAt (A ++ (mkT m ++ R)) A.length 3 = some m.length := by
      rw [e1]
      exact numAt_pad rfl (by decide) (by omega)
    have c1 : cutL (A ++ (mkT m ++ R)) (A.length + 3) (A.length + 3 + m.length) = m := by
      rw [e2]
      exact mid (by rw [List.length_append, p1]) rfl
    have hlen : (A ++ (mkT m ++ R)).length = A.length + (3 + m.length + R.length) := by
      rw [List.length_append, List.length_append, hml]
    have ih := marksR_told ms (A ++ mkT m) (fun x hx => h x (List.mem_cons_of_mem _ hx))
    rw [hR, ← e3, List.length_append, hml] at ih
    rw [List.length_cons, marksR, n1]
    show (if (A ++ (mkT m ++ R)).length < A.length + 3 + m.length then none else (marksR (A ++ (mkT m ++ R)) ms.length (A.length + 3 + m.length)).map fun r => (cutL (A ++ (mkT m ++ R)) (A.length + 3) (A.length + 3 + m.length) :: r.1, r.2)) = _
    rw [if_neg (by rw [hlen]; omega), c1, show A.length + 3 + m.length = A.length + (3 + m.length) by omega, ih]
    rfl
theorem nodeR_inner {ms : List (List Nat)} {ks : List Nat} (h0 : ms.length + 1 = ks.length) (h9 : ks.length ≤ 9) (hm : ∀ m ∈ ms, m.length < 1000) (hk : ∀ k ∈ ks, k < 10000) : nodeR (ndT (.inner ms ks)) = some (.inner ms ks) := by
  have eT : ndT (.inner ms ks) = [73] ++ [48 + ks.length] ++ (ks.map (pad 4)).flatten ++ (ms.map mkT).flatten := by
    show [73] ++ TL.numL ks.length ++ _ ++ _ = _
    rw [TL.numL_lt (by omega)]
  unfold nodeR
  rw [eT]
  have t1 : ([73] ++ [48 + ks.length] ++ (ks.map (pad 4)).flatten ++ (ms.map mkT).flatten).take 1 = [73] := rfl
  rw [t1, if_neg (by decide), if_pos rfl]
  have hkl := kids_len hk
  have a1 : [73] ++ [48 + ks.length] ++ (ks.map (pad 4)).flatten ++ (ms.map mkT).flatten = [73] ++ ([48 + ks.length] ++ ((ks.map (pad 4)).flatten ++ (ms.map mkT).flatten)) := by
    simp only [List.append_assoc]
  have a2 : [73] ++ [48 + ks.length] ++ (ks.map (pad 4)).flatten ++ (ms.map mkT).flatten = ([73] ++ [48 + ks.length]) ++ ((ks.map (pad 4)).flatten ++ (ms.map mkT).flatten) := by
    simp only [List.append_assoc]
  have n1 : numAt ([73] ++ [48 + ks.length] ++ (ks.map (pad 4)).flatten ++ (ms.map mkT).flatten) 1 1 = some ks.length := by
    rw [a1, numAt_mid (A := [73]) (B := [48 + ks.length]) (a := 1) (k := 1) rfl rfl (by decide) (by simp [isD]; omega)]
    have e := digitsVal_snoc [] (48 + ks.length)
    rw [List.nil_append] at e
    rw [e]
    have e0 : NumText.digitsVal [] = 0 := rfl
    rw [e0]
    congr 1
    omega
  have hko : kidsO ([73] ++ [48 + ks.length] ++ (ks.map (pad 4)).flatten ++ (ms.map mkT).flatten) ks.length = ks.map some := by
    apply List.ext_getElem?
    intro j
    unfold kidsO
    rw [List.getElem?_map, List.getElem?_map]
    by_cases hj : j < ks.length
    · rw [List.getElem?_range hj, List.getElem?_eq_getElem hj]
      show some (numAt _ (2 + 4 * j) 4) = some (some ks[j])
      rw [a2]
      exact congrArg some (kid_told ks ([73] ++ [48 + ks.length]) _ j _ hk (List.getElem?_eq_getElem hj))
    · rw [List.getElem?_eq_none (by rw [List.length_range]; omega), List.getElem?_eq_none (by omega)]
      rfl
  have hmr := marksR_told ms ([73] ++ [48 + ks.length] ++ (ks.map (pad 4)).flatten) hm
  have hA : ([73] ++ [48 + ks.length] ++ (ks.map (pad 4)).flatten).length = 2 + 4 * ks.length := by
    rw [List.length_append, hkl]
    rfl
  rw [hA] at hmr
  have e5 : innerR ([73] ++ [48 + ks.length] ++ (ks.map (pad 4)).flatten ++ (ms.map mkT).flatten) = some (ms, ks) := by
    unfold innerR
    rw [n1]
    show (if ks.length = 0 then none else match marksR ([73] ++ [48 + ks.length] ++ (ks.map (pad 4)).flatten ++ (ms.map mkT).flatten) (ks.length - 1) (2 + 4 * ks.length) with
      | none => none
      | some (ms', a) => if a = ([73] ++ [48 + ks.length] ++ (ks.map (pad 4)).flatten ++ (ms.map mkT).flatten).length ∧ (kidsO ([73] ++ [48 + ks.length] ++ (ks.map (pad 4)).flatten ++ (ms.map mkT).flatten) ks.length).all Option.isSome = true then some (ms', (kidsO ([73] ++ [48 + ks.length] ++ (ks.map (pad 4)).flatten ++ (ms.map mkT).flatten) ks.length).map fun o => o.getD 0) else none) = _
    rw [if_neg (by omega), show ks.length - 1 = ms.length by omega, hmr]
    show (if _ ∧ _ then _ else _) = _
    rw [hko, if_pos ⟨rfl, by simp⟩, List.map_map]
    have e6 : ks.map ((fun o : Option Nat => o.getD 0) ∘ some) = ks := by
      conv => rhs; rw [← List.map_id ks]
      rfl
    rw [e6]
  rw [e5]
  rfl
end My

set_option Elab.async false
set_option linter.all false
set_option maxRecDepth 100000
set_option maxHeartbeats 1000000
namespace My
open PySem PySem.Spec PyProof.Rows L2
local macro_rules | `(tactic| walk_at "len") => `(tactic| first | assumption | omega | decide | (simp only [List.length_append, List.length_take, List.length_drop, List.length_cons, List.length_nil, List.length_replicate]; omega))
local macro_rules | `(tactic| walk_at "side") => `(tactic| first | assumption | exact Nat.zero_le _ | decide | omega)
local macro_rules | `(tactic| walk_at "rd1") => `(tactic| first
  | with_reducible refine s_seq ?_
  | with_reducible refine x_gsub ?_
  | with_reducible refine s_asg ?_
  | ((with_reducible refine s_gn ?_); dsimp only [List.set])
  | ((with_reducible refine x_var (v := ?rdv) ?rdhv ?_); (case rdhv => rfl))
  | with_reducible refine x_c ?_
  | with_reducible refine x_op ?_
  | with_reducible refine x_cons ?_
  | with_reducible refine x_nil ?_
  | with_reducible refine x_cb ?_
  | with_reducible refine x_call ?_
  | with_reducible refine s_if ?_
  | with_reducible refine s_ret ?_
  | with_reducible refine s_retN ?_
  | with_reducible refine s_next ?_
  | with_reducible refine s_brk ?_
  | with_reducible refine s_cont ?_
  | with_reducible refine s_drop ?_
  | with_reducible refine s_par ?_
  | with_reducible refine s_par3 ?_
  | ((with_reducible refine s_p2 ?_); dsimp only [List.set])
  | ((with_reducible refine s_p3 ?_); dsimp only [List.set])
  | with_reducible refine f_r1 ?_
  | with_reducible refine f_r2 ?_
  | with_reducible refine f_l ?_
  | with_reducible refine f_t ?_
  | with_reducible refine f_s ?_
  | with_reducible refine c_r1 ?_
  | with_reducible refine c_r2 ?_
  | with_reducible refine c_l ?_
  | with_reducible refine c_t ?_
  | with_reducible refine c_s ?_
  | with_reducible refine x_tst ?_
  | with_reducible refine x_tru ?_
  | with_reducible refine x_truB ?_
  | with_reducible refine x_bl2 ?_
  | with_reducible refine x_int ?_
  | with_reducible refine x_str ?_
  | with_reducible refine x_not ?_
  | with_reducible refine x_and ?_
  | with_reducible refine x_or ?_
  | with_reducible refine x_andV ?_
  | with_reducible refine x_orV ?_
  | with_reducible refine x_notV ?_
  | with_reducible refine x_if ?_
  | with_reducible refine x_yes ?_
  | with_reducible refine x_un ?_
  | with_reducible refine x_tup ?_
  | with_reducible refine x_lst ?_
  | with_reducible refine x_callK ?_
  | with_reducible refine x_callK0 ?_
  | with_reducible refine x_bm ?_
  | with_reducible refine x_bm0 ?_
  | with_reducible refine x_tyS ?_
  | with_reducible refine x_sl ?_
  | with_reducible refine x_nopart ?_
  | with_reducible refine x_part ?_
  | with_reducible refine x_fmt0 ?_
  | with_reducible refine x_gc ?_
  | with_reducible refine x_gz ?_
  | with_reducible refine x_ckw ?_
  | with_reducible refine x_fmt ?_
  | with_reducible refine x_chain ?_
  | with_reducible refine a_ii ?_
  | ((with_reducible refine sl_to ?rda ?rdb ?_); (case rda => walk_at "len"); (case rdb => walk_at "len"))
  | ((with_reducible refine sl_from ?rda ?rdb ?_); (case rda => walk_at "len"); (case rdb => walk_at "len"))
  | ((with_reducible refine sl_mid ?rda ?rdb ?rdc ?_); (case rda => walk_at "len"); (case rdb => walk_at "len"); (case rdc => walk_at "len"))
  | ((with_reducible refine a_SS ?rda ?_); (case rda => walk_at "len"))
  | ((with_reducible refine ln_S ?rda ?_); (case rda => walk_at "len"))
  | with_reducible refine e_SS ?_
  | with_reducible refine ne_SS ?_
  | with_reducible refine s_ii ?_
  | ((with_reducible refine md_ii ?rdc ?_); (case rdc => first | decide | assumption | omega))
  | with_reducible refine n_i ?_
  | with_reducible refine e_ii ?_
  | with_reducible refine e_bb ?_
  | with_reducible refine ne_ii ?_
  | with_reducible refine ne_bb ?_
  | with_reducible refine lt_ii ?_
  | with_reducible refine lt_ss ?_
  | with_reducible refine le_ii ?_
  | with_reducible refine gt_ii ?_
  | with_reducible refine gt_ss ?_
  | with_reducible refine ge_ii ?_
  | with_reducible refine e_ss ?_
  | with_reducible refine ne_ss ?_
  | with_reducible refine is_N ?_
  | with_reducible refine is_T ?_
  | with_reducible refine is_B ?_
  | with_reducible refine isn_N ?_
  | with_reducible refine isn_T ?_
  | with_reducible refine isn_B ?_
  | with_reducible refine in_s ?_
  | with_reducible refine nin_s ?_
  | with_reducible refine i_i ?_
  | with_reducible refine i_b ?_
  | with_reducible refine ab_i ?_
  | with_reducible refine mx_ii ?_
  | with_reducible refine mn_ii ?_
  | with_reducible refine ty_N ?_
  | with_reducible refine ty_B ?_
  | with_reducible refine ty_I ?_
  | with_reducible refine ty_S ?_
  | with_reducible refine ma_s ?_
  | with_reducible refine mp_s ?_
  | with_reducible refine mdg_s ?_
  | with_reducible refine mf_s ?_
  | with_reducible refine iteT ?_
  | with_reducible refine iteF ?_
  | with_reducible refine iteNt ?_
  | with_reducible refine iteNf ?_
  | with_reducible refine iteTd (by decide) ?_
  | with_reducible refine iteFd (by decide) ?_
  | with_reducible refine iteNd (by decide) ?_
  | with_reducible refine iteNdF (by decide) ?_
  | ((with_reducible refine iteFd ?rdn ?_); (case rdn => (intro rdz; cases rdz; done)))
  | ((with_reducible refine iteNdF ?rdn ?_); (case rdn => (intro rdz; cases rdz; done))))
local macro_rules | `(tactic| walk_at "rd") => `(tactic| (repeat walk_at "rd1"))
section
variable {P : Program} {w : World} {K : PySem.W.Frag} {mg : Str → Option Value} {base : Heap}
/-! drawn nodes -/
def Sm (l : List Nat) : Prop := isT l = true ∧ l.length ≤ 300
def NdW : Nd → Prop
  | .leaf es => es.length ≤ 6 ∧ ∀ e ∈ es, Sm e.1 ∧ Sm e.2
  | .inner ms ks => ms.length + 1 = ks.length ∧ ks.length ≤ 9 ∧ (∀ m ∈ ms, Sm m) ∧ ∀ k ∈ ks, k < 10000
theorem NdW.ok {nd : Nd} (h : NdW nd) : NdOk nd := by
  cases nd with
  | leaf es => exact ⟨by have := h.1; omega, fun e he => ⟨⟨(h.2 e he).1.1, by have := (h.2 e he).1.2; omega⟩, (h.2 e he).2.1, by have := (h.2 e he).2.2; omega⟩⟩
  | inner ms ks => exact ⟨by have := h.1; have := h.2.1; omega, by have := h.2.1; omega, fun m hm => ⟨(h.2.2.1 m hm).1, by have := (h.2.2.1 m hm).2; omega⟩, fun k hk => by have := h.2.2.2 k hk; omega⟩
theorem EnV.frm {H H' : Hp} {f c : Addr} {t : Nat} {us : List V} {es : List (List Nat × List Nat)} (hFl : FlowAt H f c t) (hF : Frm f c H H') (h : EnV H us es) : EnV H' us es := ⟨h.1, fun i o hi => by
  obtain ⟨v, a, b⟩ := h.2 i o hi
  obtain ⟨cs, r, m, n, h1, h2, _⟩ := hFl
  refine ⟨v, a, hF v _ (fun e => ?_) (fun e => ?_) b⟩
  · rw [e, h1] at b; cases b
  · rw [e, h2] at b; cases b⟩
def kv (ks : List Nat) : List V := ks.map fun k : Nat => V.int k
theorem kv_app (a b : List Nat) : kv (a ++ b) = kv a ++ kv b := List.map_append ..
theorem kv_len (a : List Nat) : (kv a).length = a.length := List.length_map ..
theorem dp_kv (H : Hp) : ∀ ks : List Nat, DpAll K H (kv ks) (ks.map fun k : Nat => PyData.int k)
  | [] => .nil
  | k :: ks => .cons (.int _) (dp_kv H ks)
def sp__law_node (K : PySem.W.Frag) : Sp := fun vs H Q _ => ∃ (f c : Addr) (t : Nat), vs = [.ref f] ∧ FlowAt H f c t ∧ t + 200 < 2 ^ 60 ∧ ∀ x nd H', Dp K H' x (ndD nd) → NdW nd → FlowAt H' f c (t + 200) → Frm f c H H' → Q x H'
theorem ok__law_node (Y : Fx K mg) : FnOk P w K mg base CX0 4 Y.a__law_node Y.fd__law_node ["_law_flow_here"] (sp__law_node K) := by
  refine Y.F__law_node.ok sc__law_node (fun vs H Q E h => ?_) (fun cdv A outer st H vs Q E hr h => ?_)
  · obtain ⟨f, c, t, rfl, _⟩ := h
    rfl
  · obtain ⟨f, c, t, rfl, hFl, ht, q⟩ := h
    refine ⟨_, b__law_node Y (ok__law_draw Y) (ok__law_text Y) hr, ?_⟩
    show t__law_node K _ _ _ [some (.ref f), none, none, none, none] H
    unfold t__law_node
    rw [show ("leaf" : Str) = S leafL from rfl, show ("inner" : Str) = S innerL from rfl]
    walk_at "rd"
    refine ⟨by show 3 ≤ sizeLine; decide, fun p1 hp1 => ?_⟩
    walk_at "rd"
    refine ⟨f, c, 3, t, rfl, hFl.new hp1, by omega, by decide, by decide, fun r1 H1 r10 r11 hFl1 hF1 => ?_⟩
    obtain ⟨o1, o2⟩ := hFl.off hp1
    have hF01 := ((Frm.refl H).new hp1).trans hF1
    refine ix_rng (lo := 3) (hi := 300) (lst_of (hF1 p1 _ o1 o2 upd_same)) (rng_cons (by decide) (by decide) (rng_cons (by decide) (by decide) (rng_cons (by decide) (by decide) rng_nil))) r10 r11 fun z z0 z1 => ?_
    obtain ⟨mo, rfl⟩ : ∃ mo : Nat, z = (mo : Int) := ⟨z.toNat, by omega⟩
    have hmo : mo ≤ 300 := by omega
    clear z0 z1 hFl hF1 o1 o2
    walk_at "rd"
    refine ⟨f, c, 2, t + 1, rfl, hFl1, by omega, by decide, by decide, fun r2 H2 r20 r21 hFl2 hF2 => ?_⟩
    have hF02 := hF01.trans hF2
    clear hFl1 hF2 hF01
    walk_at "rd"
    refine ite2' (fun e => ?_) (fun e => ?_)
    · walk_at "rd"
      refine ⟨f, c, 7, t + 2, rfl, hFl2, by omega, by decide, by decide, fun r3 H3 r30 r31 hFl3 hF3 => ?_⟩
      have hF03 := hF02.trans hF3
      clear hFl2 hF3 hF02
      walk_at "rd"
      refine lcR1_mk (by omega) (by omega) (fun D i H' => FlowAt H' f c (t + 3 + 16 * i) ∧ Frm f c H H' ∧ ∃ (us : List V) (es : List (List Nat × List Nat)), H' D = some (.lst us) ∧ es.length = i ∧ EnV H' us es ∧ ∀ e ∈ es, Sm e.1 ∧ Sm e.2) (fun D hD => ⟨hFl3.new hD, hF03.new hD, [], [], upd_same, rfl, ⟨rfl, fun _ _ h => by cases h⟩, fun _ h => by cases h⟩) (fun D i H' hD hi hp => ?_) (fun D H4 hD hp => ?_)
      · obtain ⟨hFl', hF', us, es, hu, hel, hV, hes⟩ := hp
        have oD := hFl3.off hD
        refine ⟨rfl, ?_⟩
        walk_at "rd"
        refine ⟨f, c, mo, t + 3 + 16 * i, rfl, hFl', by omega, by omega, fun l1 H5 hl1 hT1 hFl5 hF5 => ?_⟩
        walk_at "rd"
        refine ⟨f, c, mo, t + 3 + 16 * i + 8, rfl, hFl5, by omega, by omega, fun l2 H6 hl2 hT2 hFl6 hF6 => ?_⟩
        walk_at "rd"
        refine ⟨by show 2 ≤ sizeLine; decide, fun p hp => ?_⟩
        have hu5 := hF5 D _ oD.1 oD.2 hu
        have hu6 := hF6 D _ oD.1 oD.2 hu5
        have hV6 := (hV.frm hFl' hF5).frm hFl5 hF6
        have hSp := same_upd hp (o := .tup [V.str (S l1), .str (S l2)])
        have hu7 := hSp _ _ hu6
        have hV7 := (hV6.mono hSp).snoc (e := (l1, l2)) upd_same
        have hF6' := ((hF'.trans hF5).trans hF6).new hp (o := .tup [V.str (S l1), .str (S l2)])
        refine ⟨us, hu7, Nat.lt_of_le_of_lt (show us.length ≤ 10 by rw [hV.1]; omega) (by decide), ?_, ?_, us ++ [.ref p], es ++ [(l1, l2)], upd_same, by rw [List.length_append, hel]; rfl, hV7.mut hu7, ?_⟩
        · exact ((hFl6.new hp).keep oD.1 oD.2).le (by omega)
        · intro x u e1 e2 e3
          have e4 := hF6' x u e1 e2 e3
          have e5 : x ≠ D := by
            rintro rfl
            have e6 := hF03 x u e1 e2 e3
            rw [hD] at e6
            cases e6
          rw [upd_ne e5]
          exact e4
        · intro x hx
          rcases List.mem_append.mp hx with h | h
          · exact hes x h
          · rw [List.mem_singleton.mp h]
            exact ⟨⟨hT1, Nat.le_trans hl1 hmo⟩, hT2, Nat.le_trans hl2 hmo⟩
      · obtain ⟨hFl', hF', us, es, hu, hel, hV, hes⟩ := hp
        walk_at "rd"
        refine tu_L (lst_of hu) fun b hb => ?_
        have hSb := same_upd hb (o := .tup us)
        walk_at "rd"
        refine ⟨by show 2 ≤ sizeLine; decide, fun p hp => ?_⟩
        have hSp := same_upd hp (o := .tup [V.str (S leafL), .ref b])
        refine q _ (.leaf es) _ (.tup (tup_of upd_same) (.cons (.str _) (.cons (.tup (same_sqt hSp (tup_of upd_same)) (((hV.mono hSb).mono hSp).dp)) .nil))) ⟨by omega, hes⟩ (((hFl'.new hb).new hp).le (by omega)) ((hF'.new hb).new hp)
    · walk_at "rd"
      refine ⟨f, c, 9, t + 2, rfl, hFl2, by omega, by decide, by decide, fun r3 H3 r30 r31 hFl3 hF3 => ?_⟩
      obtain ⟨mn, hmn⟩ : ∃ mn : Nat, 1 + r3 = (mn : Int) := ⟨(1 + r3).toNat, by omega⟩
      have hF03 := hF02.trans hF3
      clear hFl2 hF3 hF02
      walk_at "rd"
      rw [hmn]
      refine lcR1_mk (by omega) (by omega) (fun D i H' => FlowAt H' f c (t + 3 + 3 * i) ∧ Frm f c H H' ∧ ∃ ks : List Nat, H' D = some (.lst (kv ks)) ∧ ks.length = i ∧ ∀ k ∈ ks, k < 10000) (fun D hD => ⟨hFl3.new hD, hF03.new hD, [], upd_same, rfl, fun _ h => by cases h⟩) (fun D i H' hD hi hp => ?_) (fun D H4 hD hp => ?_)
      · obtain ⟨hFl', hF', ks, hu, hkl, hks⟩ := hp
        have oD := hFl3.off hD
        refine ⟨rfl, ?_⟩
        walk_at "rd"
        refine ⟨f, c, 10000, t + 3 + 3 * i, rfl, hFl', by omega, by decide, by decide, fun a1 H5 a10 a11 hFl5 hF5 => ?_⟩
        walk_at "rd"
        refine ⟨f, c, 12, t + 3 + 3 * i + 1, rfl, hFl5, by omega, by decide, by decide, fun a2 H6 a20 a21 hFl6 hF6 => ?_⟩
        walk_at "rd"
        refine ⟨by show 4 ≤ sizeLine; decide, fun p hp => ?_⟩
        walk_at "rd"
        refine ⟨f, c, 4, t + 3 + 3 * i + 2, rfl, hFl6.new hp, by omega, by decide, by decide, fun a3 H7 a30 a31 hFl7 hF7 => ?_⟩
        have op := hFl6.off hp
        refine ix_rng (lo := 0) (hi := 9999) (lst_of (hF7 p _ op.1 op.2 upd_same)) (rng_cons (by decide) (by decide) (rng_cons (by decide) (by decide) (rng_cons (by omega) (by omega) (rng_cons (by omega) (by omega) rng_nil)))) a30 a31 fun z z0 z1 => ?_
        obtain ⟨k, rfl⟩ : ∃ k : Nat, z = (k : Int) := ⟨z.toNat, by omega⟩
        have hu5 := hF5 D _ oD.1 oD.2 hu
        have hu6 := hF6 D _ oD.1 oD.2 hu5
        have hu7 := hF7 D _ oD.1 oD.2 (same_upd hp _ _ hu6)
        have hF7' := (((hF'.trans hF5).trans hF6).new hp).trans hF7
        refine ⟨kv ks, hu7, Nat.lt_of_le_of_lt (show (kv ks).length ≤ 10 by rw [kv_len]; omega) (by decide), ?_, ?_, ks ++ [k], ?_, by rw [List.length_append, hkl]; rfl, ?_⟩
        · exact (hFl7.keep oD.1 oD.2).le (by omega)
        · intro x u e1 e2 e3
          have e4 := hF7' x u e1 e2 e3
          have e5 : x ≠ D := by
            rintro rfl
            have e6 := hF03 x u e1 e2 e3
            rw [hD] at e6
            cases e6
          rw [upd_ne e5]
          exact e4
        · rw [upd_same, kv_app]
          rfl
        · intro x hx
          rcases List.mem_append.mp hx with h | h
          · exact hks x h
          · rw [List.mem_singleton.mp h]
            omega
      · obtain ⟨hFl4, hF4, ks, hu, hkl, hks⟩ := hp
        rw [Int.toNat_natCast] at hkl
        have oD := hFl3.off hD
        have hFl4' := hFl4.le (show t + 3 + 3 * (mn : Int).toNat ≤ t + 40 by omega)
        clear hFl4 hFl3 hF03
        walk_at "rd"
        refine ln_l (lst_of hu) ?_
        rw [kv_len]
        walk_at "rd"
        refine lcR1_mk (by omega) (by omega) (fun D' i H' => FlowAt H' f c (t + 40 + 8 * i) ∧ Frm f c H H' ∧ H' D = some (.lst (kv ks)) ∧ ∃ ms : List (List Nat), H' D' = some (.lst (tv ms)) ∧ ms.length = i ∧ ∀ m ∈ ms, Sm m) (fun D' hD' => ⟨hFl4'.new hD', hF4.new hD', same_upd hD' _ _ hu, [], upd_same, rfl, fun _ h => by cases h⟩) (fun D' i H' hD' hi hp => ?_) (fun D' H5 hD' hp => ?_)
        · obtain ⟨hFl', hF', hk', ms, hm, hml, hms⟩ := hp
          have oD' := hFl4'.off hD'
          refine ⟨rfl, ?_⟩
          walk_at "rd"
          refine ⟨f, c, mo, t + 40 + 8 * i, rfl, hFl', by omega, by omega, fun l1 H6 hl1 hT1 hFl6 hF6 => ?_⟩
          have hm6 := hF6 D' _ oD'.1 oD'.2 hm
          have hne : D ≠ D' := fun e => by rw [e, hD'] at hu; cases hu
          refine ⟨tv ms, hm6, Nat.lt_of_le_of_lt (show (tv ms).length ≤ 10 by rw [tv_len]; omega) (by decide), ?_, ?_, ?_, ms ++ [l1], ?_, by rw [List.length_append, hml]; rfl, ?_⟩
          · exact (hFl6.keep oD'.1 oD'.2).le (by omega)
          · intro x u e1 e2 e3
            have e4 := (hF'.trans hF6) x u e1 e2 e3
            have e5 : x ≠ D' := by
              rintro rfl
              have e6 := hF4 x u e1 e2 e3
              rw [hD'] at e6
              cases e6
            rw [upd_ne e5]
            exact e4
          · rw [upd_ne hne]
            exact hF6 D _ oD.1 oD.2 hk'
          · rw [upd_same, tv_app]
            rfl
          · intro x hx
            rcases List.mem_append.mp hx with h | h
            · exact hms x h
            · rw [List.mem_singleton.mp h]
              exact ⟨hT1, by omega⟩
        · obtain ⟨hFl5, hF5, hk5, ms, hm, hml, hms⟩ := hp
          walk_at "rd"
          refine tu_L (lst_of hm) fun b hb => ?_
          have hSb := same_upd hb (o := .tup (tv ms))
          walk_at "rd"
          refine tu_L (lst_of (hSb _ _ hk5)) fun d hd => ?_
          have hSd := same_upd hd (o := .tup (kv ks))
          walk_at "rd"
          refine ⟨by show 3 ≤ sizeLine; decide, fun p hp => ?_⟩
          have hSp := same_upd hp (o := .tup [V.str (S innerL), .ref b, .ref d])
          refine q _ (.inner ms ks) _ (.tup (tup_of upd_same) (.cons (.str _) (.cons (.tup (same_sqt hSp (same_sqt hSd (tup_of upd_same))) (dp_strs _ ms)) (.cons (.tup (same_sqt hSp (tup_of upd_same)) (dp_kv _ ks)) .nil)))) ⟨by omega, by omega, hms, hks⟩ ((((hFl5.new hb).new hd).new hp).le (by omega)) (((hF5.new hb).new hd).new hp)
end
end My

set_option Elab.async false
set_option linter.all false
set_option maxRecDepth 100000
set_option maxHeartbeats 1000000
namespace My
open PySem PySem.Spec PyProof.Rows L2
local macro_rules | `(tactic| walk_at "len") => `(tactic| first | assumption | omega | decide | (simp only [List.length_append, List.length_take, List.length_drop, List.length_cons, List.length_nil, List.length_replicate]; omega))
local macro_rules | `(tactic| walk_at "side") => `(tactic| first | assumption | exact Nat.zero_le _ | decide | omega)
local macro_rules | `(tactic| walk_at "rd1") => `(tactic| first
  | with_reducible refine s_seq ?_
  | with_reducible refine x_gsub ?_
  | with_reducible refine s_asg ?_
  | ((with_reducible refine s_gn ?_); dsimp only [List.set])
  | ((with_reducible refine x_var (v := ?rdv) ?rdhv ?_); (case rdhv => rfl))
  | with_reducible refine x_c ?_
  | with_reducible refine x_op ?_
  | with_reducible refine x_cons ?_
  | with_reducible refine x_nil ?_
  | with_reducible refine x_cb ?_
  | with_reducible refine x_call ?_
  | with_reducible refine s_if ?_
  | with_reducible refine s_ret ?_
  | with_reducible refine s_retN ?_
  | with_reducible refine s_next ?_
  | with_reducible refine s_brk ?_
  | with_reducible refine s_cont ?_
  | with_reducible refine s_drop ?_
  | with_reducible refine s_par ?_
  | with_reducible refine s_par3 ?_
  | ((with_reducible refine s_p2 ?_); dsimp only [List.set])
  | ((with_reducible refine s_p3 ?_); dsimp only [List.set])
  | with_reducible refine f_r1 ?_
  | with_reducible refine f_r2 ?_
  | with_reducible refine f_l ?_
  | with_reducible refine f_t ?_
  | with_reducible refine f_s ?_
  | with_reducible refine c_r1 ?_
  | with_reducible refine c_r2 ?_
  | with_reducible refine c_l ?_
  | with_reducible refine c_t ?_
  | with_reducible refine c_s ?_
  | with_reducible refine x_tst ?_
  | with_reducible refine x_tru ?_
  | with_reducible refine x_truB ?_
  | with_reducible refine x_bl2 ?_
  | with_reducible refine x_int ?_
  | with_reducible refine x_str ?_
  | with_reducible refine x_not ?_
  | with_reducible refine x_and ?_
  | with_reducible refine x_or ?_
  | with_reducible refine x_andV ?_
  | with_reducible refine x_orV ?_
  | with_reducible refine x_notV ?_
  | with_reducible refine x_if ?_
  | with_reducible refine x_yes ?_
  | with_reducible refine x_un ?_
  | with_reducible refine x_tup ?_
  | with_reducible refine x_lst ?_
  | with_reducible refine x_callK ?_
  | with_reducible refine x_callK0 ?_
  | with_reducible refine x_bm ?_
  | with_reducible refine x_bm0 ?_
  | with_reducible refine x_tyS ?_
  | with_reducible refine x_sl ?_
  | with_reducible refine x_nopart ?_
  | with_reducible refine x_part ?_
  | with_reducible refine x_fmt0 ?_
  | with_reducible refine x_gc ?_
  | with_reducible refine x_gz ?_
  | with_reducible refine x_ckw ?_
  | with_reducible refine x_fmt ?_
  | with_reducible refine x_chain ?_
  | with_reducible refine a_ii ?_
  | ((with_reducible refine sl_to ?rda ?rdb ?_); (case rda => walk_at "len"); (case rdb => walk_at "len"))
  | ((with_reducible refine sl_from ?rda ?rdb ?_); (case rda => walk_at "len"); (case rdb => walk_at "len"))
  | ((with_reducible refine sl_mid ?rda ?rdb ?rdc ?_); (case rda => walk_at "len"); (case rdb => walk_at "len"); (case rdc => walk_at "len"))
  | ((with_reducible refine a_SS ?rda ?_); (case rda => walk_at "len"))
  | ((with_reducible refine ln_S ?rda ?_); (case rda => walk_at "len"))
  | with_reducible refine e_SS ?_
  | with_reducible refine ne_SS ?_
  | with_reducible refine s_ii ?_
  | ((with_reducible refine md_ii ?rdc ?_); (case rdc => first | decide | assumption | omega))
  | with_reducible refine n_i ?_
  | with_reducible refine e_ii ?_
  | with_reducible refine e_bb ?_
  | with_reducible refine ne_ii ?_
  | with_reducible refine ne_bb ?_
  | with_reducible refine lt_ii ?_
  | with_reducible refine lt_ss ?_
  | with_reducible refine le_ii ?_
  | with_reducible refine gt_ii ?_
  | with_reducible refine gt_ss ?_
  | with_reducible refine ge_ii ?_
  | with_reducible refine e_ss ?_
  | with_reducible refine ne_ss ?_
  | with_reducible refine is_N ?_
  | with_reducible refine is_T ?_
  | with_reducible refine is_B ?_
  | with_reducible refine isn_N ?_
  | with_reducible refine isn_T ?_
  | with_reducible refine isn_B ?_
  | with_reducible refine in_s ?_
  | with_reducible refine nin_s ?_
  | with_reducible refine i_i ?_
  | with_reducible refine i_b ?_
  | with_reducible refine ab_i ?_
  | with_reducible refine mx_ii ?_
  | with_reducible refine mn_ii ?_
  | with_reducible refine ty_N ?_
  | with_reducible refine ty_B ?_
  | with_reducible refine ty_I ?_
  | with_reducible refine ty_S ?_
  | with_reducible refine ma_s ?_
  | with_reducible refine mp_s ?_
  | with_reducible refine mdg_s ?_
  | with_reducible refine mf_s ?_
  | with_reducible refine iteT ?_
  | with_reducible refine iteF ?_
  | with_reducible refine iteNt ?_
  | with_reducible refine iteNf ?_
  | with_reducible refine iteTd (by decide) ?_
  | with_reducible refine iteFd (by decide) ?_
  | with_reducible refine iteNd (by decide) ?_
  | with_reducible refine iteNdF (by decide) ?_
  | ((with_reducible refine iteFd ?rdn ?_); (case rdn => (intro rdz; cases rdz; done)))
  | ((with_reducible refine iteNdF ?rdn ?_); (case rdn => (intro rdz; cases rdz; done))))
local macro_rules | `(tactic| walk_at "rd") => `(tactic| (repeat walk_at "rd1"))
section
variable {P : Program} {w : World} {K : PySem.W.Frag} {mg : Str → Option Value} {base : Heap}
/-! texts near to a text -/
theorem isT_D {l : List Nat} {n : Nat} (h : isT l = true) : isT (l.drop n) = true := isT_drop n h
def sp__law_near (K : PySem.W.Frag) : Sp := fun vs H Q _ => ∃ (f c : Addr) (l : List Nat) (t : Nat), vs = [.ref f, .str (S l)] ∧ FlowAt H f c t ∧ t + 10 < 2 ^ 60 ∧ isT l = true ∧ l.length ≤ 30000 ∧ ∀ l' H', l'.length ≤ 2 * l.length + 10 → isT l' = true → FlowAt H' f c (t + 10) → Frm f c H H' → Q (.str (S l')) H'
theorem ok__law_near (Y : Fx K mg) : FnOk P w K mg base CX0 3 Y.a__law_near Y.fd__law_near ["_law_flow_here", "_law_text_here"] (sp__law_near K) := by
  refine Y.F__law_near.ok sc__law_near (fun vs H Q E h => ?_) (fun cdv A outer st H vs Q E hr h => ?_)
  · obtain ⟨f, c, l, t, rfl, _⟩ := h
    rfl
  · obtain ⟨f, c, l, t, rfl, hFl, ht, hT, hl, q⟩ := h
    refine ⟨_, b__law_near Y (ok__law_draw Y) (ok__law_sign Y) hr, ?_⟩
    show t__law_near K _ _ _ [some (.ref f), some (.str (S l)), none, none, none] H
    unfold t__law_near
    rw [show ("0" : Str) = S [48] from rfl, show ("1" : Str) = S [49] from rfl, show ("9" : Str) = S [57] from rfl, show (" " : Str) = S [32] from rfl, show ("L" : Str) = S [76] from rfl, show ("I" : Str) = S [73] from rfl, show ("-" : Str) = S [45] from rfl, show ("000000" : Str) = S [48, 48, 48, 48, 48, 48] from rfl]
    walk_at "rd"
    refine ⟨f, c, (l.length : Int) + 1, t, rfl, hFl, by omega, by omega, by omega, fun r1 H1 r10 r11 hFl1 hF1 => ?_⟩
    obtain ⟨a1, rfl⟩ : ∃ a1 : Nat, r1 = (a1 : Int) := ⟨r1.toNat, by omega⟩
    clear hFl
    walk_at "rd"
    refine s_cut (fun σ' H' => ∃ a : Nat, σ' = [some (.ref f), some (.str (S l)), some (.int a), none, none] ∧ a ≤ l.length ∧ FlowAt H' f c (t + 3) ∧ Frm f c H H') ?_ ?_
    · walk_at "rd"
      refine ⟨f, c, 3, t + 1, rfl, hFl1, by omega, by decide, by decide, fun r2 H2 r20 r21 hFl2 hF2 => ?_⟩
      walk_at "rd"
      refine ite2' (fun e => ?_) (fun e => ?_)
      · walk_at "rd"
        have hm : 0 ≤ (if (12 : Int) < (l.length : Int) then (12 : Int) else l.length) ∧ (if (12 : Int) < (l.length : Int) then (12 : Int) else l.length) ≤ l.length := by split <;> omega
        generalize (if (12 : Int) < (l.length : Int) then (12 : Int) else l.length) = m at hm
        refine ⟨f, c, m + 1, t + 2, rfl, hFl2, by omega, by omega, by omega, fun r3 H3 r30 r31 hFl3 hF3 => ?_⟩
        obtain ⟨a2, rfl⟩ : ∃ a2 : Nat, r3 = (a2 : Int) := ⟨r3.toNat, by omega⟩
        walk_at "rd"
        exact ⟨a2, rfl, by omega, hFl3, (hF1.trans hF2).trans hF3⟩
      · walk_at "rd"
        exact ⟨a1, rfl, by omega, hFl2.le (by omega), hF1.trans hF2⟩
    · clear hFl1 hF1 r10 r11 H1
      rintro σ' H1 ⟨a, rfl, ha, hFl1, hF1⟩
      walk_at "rd"
      refine ⟨f, c, t + 3, rfl, hFl1, by omega, fun d H2 hd hFl2 hF2 => ?_⟩
      have hF02 := hF1.trans hF2
      clear hFl1 hF1 hF2
      walk_at "rd"
      refine ⟨by show 8 ≤ sizeLine; decide, fun p1 hp1 => ?_⟩
      walk_at "rd"
      refine ⟨f, c, 8, t + 4, rfl, hFl2.new hp1, by omega, by decide, by decide, fun r3 H3 r30 r31 hFl3 hF3 => ?_⟩
      obtain ⟨o1, o2⟩ := hFl2.off hp1
      have hF03 := (hF02.new hp1).trans hF3
      refine ix_txt (n := 1) (lst_of (hF3 p1 _ o1 o2 upd_same)) (txt_cons (l := [d]) (Nat.le_refl 1) hd (txt_cons (l := [48]) (by decide) (by decide) (txt_cons (l := [49]) (by decide) (by decide) (txt_cons (l := [57]) (by decide) (by decide) (txt_cons (l := [32]) (by decide) (by decide) (txt_cons (l := [76]) (by decide) (by decide) (txt_cons (l := [73]) (by decide) (by decide) (txt_cons (l := [45]) (by decide) (by decide) txt_nil)))))))) r30 r31 fun sg hsg hsT => ?_
      clear hFl2 hF02 hF3 o1 o2 hp1
      walk_at "rd"
      refine ⟨by show 4 ≤ sizeLine; decide, fun p2 hp2 => ?_⟩
      walk_at "rd"
      refine lw_S (by omega) hT fun lw hlw hwT => ?_
      walk_at "rd"
      refine ⟨by show 6 ≤ sizeLine; decide, fun p3 hp3 => ?_⟩
      refine a_ll (same_upd hp3 _ _ upd_same) upd_same (by show 10 ≤ sizeLine; decide) fun p4 hp4 => ?_
      walk_at "rd"
      refine ⟨f, c, 10, t + 5, rfl, ((hFl3.new hp2).new hp3).new hp4, by omega, by decide, by decide, fun r4 H4 r40 r41 hFl4 hF4 => ?_⟩
      obtain ⟨o1, o2⟩ := ((hFl3.new hp2).new hp3).off hp4
      have hF04 := (((hF03.new hp2).new hp3).new hp4).trans hF4
      refine ix_txt (n := 2 * l.length + 10) (lst_of (hF4 p4 _ o1 o2 upd_same)) ?_ r40 r41 fun l' hl' hT' => q l' H4 hl' hT' (hFl4.le (by omega)) hF04
      have tk : ∀ n, isT (l.take n) = true := fun n => isT_take n hT
      have dr : ∀ n, isT (l.drop n) = true := fun n => isT_drop n hT
      refine txt_cons (by omega) hT (txt_cons (by simp only [List.length_append, List.length_take, List.length_drop]; omega) (by simp only [isT_app, tk, dr, hsT, Bool.and_self]) (txt_cons (by simp only [List.length_append, List.length_take, List.length_drop]; omega) (by simp only [isT_app, tk, dr, hsT, Bool.and_self]) (txt_cons (by simp only [List.length_append, List.length_take, List.length_drop]; omega) (by simp only [isT_app, tk, dr, hsT, Bool.and_self]) ?_)))
      refine txt_cons (by simp only [List.length_take]; omega) (tk _) (txt_cons (by simp only [List.length_append]; omega) (by simp only [isT_app, hT, hsT, Bool.and_self]) (txt_cons (by omega) hwT (txt_cons (by simp only [List.length_append, List.length_drop]; omega) (by simp only [isT_app, hT, dr, Bool.and_self]) (txt_cons (by simp only [List.length_append, List.length_cons, List.length_nil]; omega) (by rw [isT_app, hT]; decide) (txt_cons (by simp only [List.length_drop]; omega) (dr _) txt_nil)))))
end
end My

set_option Elab.async false
set_option linter.all false
set_option maxRecDepth 100000
set_option maxHeartbeats 1000000
namespace My
open PySem PySem.Spec PyProof.Rows L2
local macro_rules | `(tactic| walk_at "len") => `(tactic| first | assumption | omega | decide | (simp only [List.length_append, List.length_take, List.length_drop, List.length_cons, List.length_nil, List.length_replicate]; omega))
local macro_rules | `(tactic| walk_at "side") => `(tactic| first | assumption | exact Nat.zero_le _ | decide | omega)
local macro_rules | `(tactic| walk_at "rd1") => `(tactic| first
  | with_reducible refine s_seq ?_
  | with_reducible refine x_gsub ?_
  | with_reducible refine s_asg ?_
  | ((with_reducible refine s_gn ?_); dsimp only [List.set])
  | ((with_reducible refine x_var (v := ?rdv) ?rdhv ?_); (case rdhv => rfl))
  | with_reducible refine x_c ?_
  | with_reducible refine x_op ?_
  | with_reducible refine x_cons ?_
  | with_reducible refine x_nil ?_
  | with_reducible refine x_cb ?_
  | with_reducible refine x_call ?_
  | with_reducible refine s_if ?_
  | with_reducible refine s_ret ?_
  | with_reducible refine s_retN ?_
  | with_reducible refine s_next ?_
  | with_reducible refine s_brk ?_
  | with_reducible refine s_cont ?_
  | with_reducible refine s_drop ?_
  | with_reducible refine s_par ?_
  | with_reducible refine s_par3 ?_
  | ((with_reducible refine s_p2 ?_); dsimp only [List.set])
  | ((with_reducible refine s_p3 ?_); dsimp only [List.set])
  | with_reducible refine f_r1 ?_
  | with_reducible refine f_r2 ?_
  | with_reducible refine f_l ?_
  | with_reducible refine f_t ?_
  | with_reducible refine f_s ?_
  | with_reducible refine c_r1 ?_
  | with_reducible refine c_r2 ?_
  | with_reducible refine c_l ?_
  | with_reducible refine c_t ?_
  | with_reducible refine c_s ?_
  | with_reducible refine x_tst ?_
  | with_reducible refine x_tru ?_
  | with_reducible refine x_truB ?_
  | with_reducible refine x_bl2 ?_
  | with_reducible refine x_int ?_
  | with_reducible refine x_str ?_
  | with_reducible refine x_not ?_
  | with_reducible refine x_and ?_
  | with_reducible refine x_or ?_
  | with_reducible refine x_andV ?_
  | with_reducible refine x_orV ?_
  | with_reducible refine x_notV ?_
  | with_reducible refine x_if ?_
  | with_reducible refine x_yes ?_
  | with_reducible refine x_un ?_
  | with_reducible refine x_tup ?_
  | with_reducible refine x_lst ?_
  | with_reducible refine x_callK ?_
  | with_reducible refine x_callK0 ?_
  | with_reducible refine x_bm ?_
  | with_reducible refine x_bm0 ?_
  | with_reducible refine x_tyS ?_
  | with_reducible refine x_sl ?_
  | with_reducible refine x_nopart ?_
  | with_reducible refine x_part ?_
  | with_reducible refine x_fmt0 ?_
  | with_reducible refine x_gc ?_
  | with_reducible refine x_gz ?_
  | with_reducible refine x_ckw ?_
  | with_reducible refine x_fmt ?_
  | with_reducible refine x_chain ?_
  | with_reducible refine a_ii ?_
  | ((with_reducible refine sl_to ?rda ?rdb ?_); (case rda => walk_at "len"); (case rdb => walk_at "len"))
  | ((with_reducible refine sl_from ?rda ?rdb ?_); (case rda => walk_at "len"); (case rdb => walk_at "len"))
  | ((with_reducible refine sl_mid ?rda ?rdb ?rdc ?_); (case rda => walk_at "len"); (case rdb => walk_at "len"); (case rdc => walk_at "len"))
  | ((with_reducible refine a_SS ?rda ?_); (case rda => walk_at "len"))
  | ((with_reducible refine ln_S ?rda ?_); (case rda => walk_at "len"))
  | with_reducible refine e_SS ?_
  | with_reducible refine ne_SS ?_
  | with_reducible refine s_ii ?_
  | ((with_reducible refine md_ii ?rdc ?_); (case rdc => first | decide | assumption | omega))
  | with_reducible refine n_i ?_
  | with_reducible refine e_ii ?_
  | with_reducible refine e_bb ?_
  | with_reducible refine ne_ii ?_
  | with_reducible refine ne_bb ?_
  | with_reducible refine lt_ii ?_
  | with_reducible refine lt_ss ?_
  | with_reducible refine le_ii ?_
  | with_reducible refine gt_ii ?_
  | with_reducible refine gt_ss ?_
  | with_reducible refine ge_ii ?_
  | with_reducible refine e_ss ?_
  | with_reducible refine ne_ss ?_
  | with_reducible refine is_N ?_
  | with_reducible refine is_T ?_
  | with_reducible refine is_B ?_
  | with_reducible refine isn_N ?_
  | with_reducible refine isn_T ?_
  | with_reducible refine isn_B ?_
  | with_reducible refine in_s ?_
  | with_reducible refine nin_s ?_
  | with_reducible refine i_i ?_
  | with_reducible refine i_b ?_
  | with_reducible refine ab_i ?_
  | with_reducible refine mx_ii ?_
  | with_reducible refine mn_ii ?_
  | with_reducible refine ty_N ?_
  | with_reducible refine ty_B ?_
  | with_reducible refine ty_I ?_
  | with_reducible refine ty_S ?_
  | with_reducible refine ma_s ?_
  | with_reducible refine mp_s ?_
  | with_reducible refine mdg_s ?_
  | with_reducible refine mf_s ?_
  | with_reducible refine iteT ?_
  | with_reducible refine iteF ?_
  | with_reducible refine iteNt ?_
  | with_reducible refine iteNf ?_
  | with_reducible refine iteTd (by decide) ?_
  | with_reducible refine iteFd (by decide) ?_
  | with_reducible refine iteNd (by decide) ?_
  | with_reducible refine iteNdF (by decide) ?_
  | ((with_reducible refine iteFd ?rdn ?_); (case rdn => (intro rdz; cases rdz; done)))
  | ((with_reducible refine iteNdF ?rdn ?_); (case rdn => (intro rdz; cases rdz; done))))
local macro_rules | `(tactic| walk_at "rd") => `(tactic| (repeat walk_at "rd1"))
/-! data that is compared; how long texts are -/
theorem shaped_str {l : List Nat} (h : isT l = true) : SeqAt.shaped (.str (S l)) = true := by
  have hb : PyData.strOk (S l) = true := by
    unfold PyData.strOk
    rw [← Array.all_toList, S_cps, List.all_eq_true]
    intro c hc
    have := isT_mem h hc
    exact decide_eq_true (by omega)
  unfold SeqAt.shaped
  simp [PyData.canLay0, PyData.depth, hb]
theorem fine_str {l : List Nat} (h : isT l = true) : ∀ n, Fine n (.str (S l))
  | 0 => shaped_str h
  | _ + 1 => shaped_str h
theorem fine_int (i : Int) : ∀ n, Fine n (.int i)
  | 0 => by show SeqAt.shaped (.int i) = true; simp [SeqAt.shaped, PyData.canLay0, PyData.depth]
  | _ + 1 => by show SeqAt.shaped (.int i) = true; simp [SeqAt.shaped, PyData.canLay0, PyData.depth]
theorem fine_non : ∀ n, Fine n .none
  | 0 => by show SeqAt.shaped .none = true; simp [SeqAt.shaped, PyData.canLay0, PyData.depth]
  | _ + 1 => by show SeqAt.shaped .none = true; simp [SeqAt.shaped, PyData.canLay0, PyData.depth]
theorem fine_tup {n : Nat} {ds : List PyData} (hl : ds.length ≤ 100000) (h : ∀ e ∈ ds, Fine n e) : Fine (n + 1) (.tuple ds) := ⟨hl, h⟩
theorem fine_lst {n : Nat} {ds : List PyData} (hl : ds.length ≤ 100000) (h : ∀ e ∈ ds, Fine n e) : Fine (n + 1) (.list ds) := ⟨hl, h⟩
theorem all2 {α : Type} {F : α → Prop} {a b : α} (h1 : F a) (h2 : F b) : ∀ e ∈ [a, b], F e := fun e he => by
  rcases List.mem_cons.mp he with rfl | he
  · exact h1
  · rw [List.mem_singleton.mp he]; exact h2
theorem all3 {α : Type} {F : α → Prop} {a b c : α} (h1 : F a) (h2 : F b) (h3 : F c) : ∀ e ∈ [a, b, c], F e := fun e he => by
  rcases List.mem_cons.mp he with rfl | he
  · exact h1
  · exact all2 h2 h3 e he
def NdF : Nd → Prop
  | .leaf es => es.length ≤ 100000 ∧ ∀ e ∈ es, isT e.1 = true ∧ isT e.2 = true
  | .inner ms ks => ms.length ≤ 100000 ∧ ks.length ≤ 100000 ∧ ∀ m ∈ ms, isT m = true
theorem fine_nd {n : Nat} {nd : Nd} (h : NdF nd) : Fine (n + 3) (ndD nd) := by
  cases nd with
  | leaf es =>
    refine fine_tup (show 2 ≤ 100000 by decide) (all2 (fine_str (by decide) _) (fine_tup (by rw [List.length_map]; exact h.1) fun d hd => ?_))
    obtain ⟨e, he, rfl⟩ := List.mem_map.mp hd
    exact fine_tup (by show 2 ≤ 100000; decide) (all2 (fine_str (h.2 e he).1 _) (fine_str (h.2 e he).2 _))
  | inner ms ks =>
    refine fine_tup (show 3 ≤ 100000 by decide) (all3 (fine_str (by decide) _) (fine_tup (by rw [List.length_map]; exact h.1) fun d hd => ?_) (fine_tup (by rw [List.length_map]; exact h.2.1) fun d hd => ?_))
    · obtain ⟨e, he, rfl⟩ := List.mem_map.mp hd
      exact fine_str (h.2.2 e he) _
    · obtain ⟨e, he, rfl⟩ := List.mem_map.mp hd
      exact fine_int _ _
theorem cutL_T {l : List Nat} {a b : Nat} (h : isT l = true) : isT (cutL l a b) = true := isT_drop _ (isT_take _ h)
theorem leafR_fine {l : List Nat} (h : isT l = true) : ∀ (n a : Nat) (es : List (List Nat × List Nat)), leafR l n a = some es → es.length ≤ n ∧ ∀ e ∈ es, isT e.1 = true ∧ isT e.2 = true
  | 0, a, es, e => by
    cases e
    exact ⟨Nat.le_refl _, fun _ h => by cases h⟩
  | n + 1, a, es, e => by
    rw [leafR] at e
    by_cases ha : a < l.length
    · rw [if_pos ha] at e
      cases h1 : numAt l a 3 with
      | none => rw [h1] at e; cases e
      | some x =>
        cases h2 : numAt l (a + 3) 3 with
        | none => rw [h1, h2] at e; cases e
        | some y =>
          rw [h1, h2] at e
          have e' : (if l.length < a + 6 + x + y then none else (leafR l n (a + 6 + x + y)).map fun r => (cutL l (a + 6) (a + 6 + x), cutL l (a + 6 + x) (a + 6 + x + y)) :: r) = some es := e
          by_cases hb : l.length < a + 6 + x + y
          · rw [if_pos hb] at e'; cases e'
          · rw [if_neg hb] at e'
            cases hr : leafR l n (a + 6 + x + y) with
            | none => rw [hr] at e'; cases e'
            | some r =>
              rw [hr] at e'
              cases e'
              obtain ⟨i1, i2⟩ := leafR_fine h n _ r hr
              refine ⟨Nat.succ_le_succ i1, fun z hz => ?_⟩
              rcases List.mem_cons.mp hz with rfl | hz
              · exact ⟨cutL_T h, cutL_T h⟩
              · exact i2 z hz
    · rw [if_neg ha] at e
      cases e
      exact ⟨Nat.zero_le _, fun _ h => by cases h⟩
theorem marksR_fine {l : List Nat} (h : isT l = true) : ∀ (n a : Nat) (r : List (List Nat) × Nat), marksR l n a = some r → r.1.length = n ∧ ∀ m ∈ r.1, isT m = true
  | 0, a, r, e => by
    cases e
    exact ⟨rfl, fun _ h => by cases h⟩
  | n + 1, a, r, e => by
    rw [marksR] at e
    cases h1 : numAt l a 3 with
    | none => rw [h1] at e; cases e
    | some x =>
      rw [h1] at e
      have e' : (if l.length < a + 3 + x then none else (marksR l n (a + 3 + x)).map fun r => (cutL l (a + 3) (a + 3 + x) :: r.1, r.2)) = some r := e
      by_cases hb : l.length < a + 3 + x
      · rw [if_pos hb] at e'; cases e'
      · rw [if_neg hb] at e'
        cases hr : marksR l n (a + 3 + x) with
        | none => rw [hr] at e'; cases e'
        | some r' =>
          rw [hr] at e'
          cases e'
          obtain ⟨i1, i2⟩ := marksR_fine h n _ r' hr
          refine ⟨by show (_ :: r'.1).length = n + 1; rw [List.length_cons, i1], fun z hz => ?_⟩
          rcases List.mem_cons.mp hz with rfl | hz
          · exact cutL_T h
          · exact i2 z hz
theorem nodeR_fine {l : List Nat} {nd : Nd} (h : isT l = true) (hl : l.length ≤ 100000) (e : nodeR l = some nd) : NdF nd := by
  unfold nodeR at e
  by_cases h1 : l.take 1 = [76]
  · rw [if_pos h1] at e
    cases hr : leafR l l.length 1 with
    | none => rw [hr] at e; cases e
    | some es =>
      rw [hr] at e
      cases e
      obtain ⟨i1, i2⟩ := leafR_fine h _ _ _ hr
      exact ⟨by omega, i2⟩
  · rw [if_neg h1] at e
    by_cases h2 : l.take 1 = [73]
    · rw [if_pos h2] at e
      unfold innerR at e
      cases hm : numAt l 1 1 with
      | none => rw [hm] at e; cases e
      | some m =>
        have hm10 := numAt_one hm
        rw [hm] at e
        by_cases h0 : m = 0
        · subst h0; cases e
        · cases hr : marksR l (m - 1) (2 + 4 * m) with
          | none =>
            simp only [hr, if_neg h0] at e
            cases e
          | some r =>
            obtain ⟨ms, a⟩ := r
            simp only [hr, if_neg h0] at e
            obtain ⟨i1, i2⟩ := marksR_fine h _ _ _ hr
            by_cases hc : a = l.length ∧ (kidsO l m).all Option.isSome = true
            · rw [if_pos hc] at e
              cases e
              refine ⟨by have : ms.length = m - 1 := i1; show ms.length ≤ 100000; omega, ?_, i2⟩
              unfold kidsO
              rw [List.length_map, List.length_map, List.length_range]
              omega
            · rw [if_neg hc] at e
              cases e
    · rw [if_neg h2] at e
      cases e
theorem fine_ndO {n : Nat} {l : List Nat} (h : isT l = true) (hl : l.length ≤ 100000) : Fine (n + 3) (ndO (nodeR l)) := by
  cases e : nodeR l with
  | none => exact fine_non _
  | some nd => exact fine_nd (nodeR_fine h hl e)
/-! the text of a node: its signs, its length -/
def NdT : Nd → Prop
  | .leaf es => ∀ e ∈ es, (isT e.1 = true ∧ e.1.length < 1000) ∧ isT e.2 = true ∧ e.2.length < 1000
  | .inner ms ks => ks.length < 10 ∧ (∀ m ∈ ms, isT m = true ∧ m.length < 1000) ∧ ∀ k ∈ ks, k < 10000
theorem pad_T {w n : Nat} (h0 : w ≠ 0) (hn : n < 10 ^ w) : isT (pad w n) = true := by
  rw [pad_figs w n hn (Nat.pos_of_ne_zero h0)]
  exact isD_isT (figs_isD w n)
theorem isT_ndT {nd : Nd} (h : NdT nd) : isT (ndT nd) = true := by
  cases nd with
  | leaf es =>
    show isT ([76] ++ (es.map enT).flatten) = true
    rw [isT_app, isT_flat fun c hc => ?_]
    · decide
    · obtain ⟨e, he, rfl⟩ := List.mem_map.mp hc
      obtain ⟨⟨a, b⟩, c, d⟩ := h e he
      unfold enT
      simp only [isT_app, a, c, pad_T (w := 3) (n := e.1.length) (by decide) (by omega), pad_T (w := 3) (n := e.2.length) (by decide) (by omega), Bool.and_self]
  | inner ms ks =>
    obtain ⟨h1, h2, h3⟩ := h
    show isT ([73] ++ TL.numL ks.length ++ (ks.map (pad 4)).flatten ++ (ms.map mkT).flatten) = true
    rw [isT_app, isT_app, isT_app, isT_flat (cs := ms.map mkT) fun c hc => ?_, isT_flat (cs := ks.map (pad 4)) fun c hc => ?_, TL.numL_lt h1, isT_of (l := [48 + ks.length]) fun c hc => ?_]
    · decide
    · rw [List.mem_singleton.mp hc]
      omega
    · obtain ⟨k, hk, rfl⟩ := List.mem_map.mp hc
      exact pad_T (by decide) (h3 k hk)
    · obtain ⟨m, hm, rfl⟩ := List.mem_map.mp hc
      obtain ⟨a, b⟩ := h2 m hm
      unfold mkT
      simp only [isT_app, a, pad_T (w := 3) (n := m.length) (by decide) (by omega), Bool.and_self]
theorem flat_eq {n : Nat} : ∀ {cs : List (List Nat)}, (∀ c ∈ cs, c.length = n) → cs.flatten.length = n * cs.length
  | [], _ => rfl
  | c :: cs, h => by
    rw [List.flatten_cons, List.length_append, List.length_cons, Nat.mul_add, Nat.mul_one]
    have h1 := h c (List.mem_cons_self ..)
    have h2 := flat_eq fun d hd => h d (List.mem_cons_of_mem _ hd)
    omega
theorem enT_len {e : List Nat × List Nat} (h1 : e.1.length < 1000) (h2 : e.2.length < 1000) : (enT e).length = 6 + e.1.length + e.2.length := by
  unfold enT
  simp only [List.length_append, pad_lenW (w := 3) (n := e.1.length) (by decide) (by omega), pad_lenW (w := 3) (n := e.2.length) (by decide) (by omega)]
theorem mkT_len {m : List Nat} (h1 : m.length < 1000) : (mkT m).length = 3 + m.length := by
  unfold mkT
  simp only [List.length_append, pad_lenW (w := 3) (n := m.length) (by decide) (by omega)]
theorem NdW.T {nd : Nd} (h : NdW nd) : NdT nd := by
  cases nd with
  | leaf es => exact fun e he => ⟨⟨(h.2 e he).1.1, by have := (h.2 e he).1.2; omega⟩, (h.2 e he).2.1, by have := (h.2 e he).2.2; omega⟩
  | inner ms ks => exact ⟨by have := h.2.1; omega, fun m hm => ⟨(h.2.2.1 m hm).1, by have := (h.2.2.1 m hm).2; omega⟩, h.2.2.2⟩
theorem NdW.len {nd : Nd} (h : NdW nd) : (ndT nd).length ≤ 4000 := by
  have hT := h.T
  cases nd with
  | leaf es =>
    have h1 : (es.map enT).flatten.length ≤ 606 * 6 := by
      refine Nat.le_trans (flat_le (n := 606) fun c hc => ?_) (Nat.mul_le_mul (Nat.le_refl _) (by rw [List.length_map]; exact h.1))
      obtain ⟨e, he, rfl⟩ := List.mem_map.mp hc
      have a := (h.2 e he).1.2
      have b := (h.2 e he).2.2
      rw [enT_len (by omega) (by omega)]
      omega
    show ([76] ++ (es.map enT).flatten).length ≤ 4000
    rw [List.length_append, List.length_singleton]
    omega
  | inner ms ks =>
    obtain ⟨i0, i1, i2, i3⟩ := h
    have h1 : (ms.map mkT).flatten.length ≤ 303 * 9 := by
      refine Nat.le_trans (flat_le (n := 303) fun c hc => ?_) (Nat.mul_le_mul (Nat.le_refl _) (by rw [List.length_map]; omega))
      obtain ⟨m, hm, rfl⟩ := List.mem_map.mp hc
      have a := (i2 m hm).2
      rw [mkT_len (by omega)]
      omega
    have h2 := kids_len i3
    show ([73] ++ TL.numL ks.length ++ (ks.map (pad 4)).flatten ++ (ms.map mkT).flatten).length ≤ 4000
    rw [TL.numL_lt (by omega)]
    simp only [List.length_append, List.length_singleton]
    omega
theorem NdW.told {nd : Nd} (h : NdW nd) : nodeR (ndT nd) = some nd := by
  cases nd with
  | leaf es => exact nodeR_leaf fun e he => ⟨by have := (h.2 e he).1.2; omega, by have := (h.2 e he).2.2; omega⟩
  | inner ms ks => exact nodeR_inner h.1 h.2.1 (fun m hm => by have := (h.2.2.1 m hm).2; omega) h.2.2.2
theorem NdW.F {nd : Nd} (h : NdW nd) : NdF nd := nodeR_fine (isT_ndT h.T) (by have := h.len; omega) h.told
end My

set_option Elab.async false
set_option linter.all false
set_option maxRecDepth 100000
set_option maxHeartbeats 1000000
namespace My
open PySem PySem.Spec PyProof.Rows L2
local macro_rules | `(tactic| walk_at "len") => `(tactic| first | assumption | omega | decide | (simp only [List.length_append, List.length_take, List.length_drop, List.length_cons, List.length_nil, List.length_replicate]; omega))
local macro_rules | `(tactic| walk_at "side") => `(tactic| first | assumption | exact Nat.zero_le _ | decide | omega)
local macro_rules | `(tactic| walk_at "rd1") => `(tactic| first
  | with_reducible refine s_seq ?_
  | with_reducible refine x_gsub ?_
  | with_reducible refine s_asg ?_
  | ((with_reducible refine s_gn ?_); dsimp only [List.set])
  | ((with_reducible refine x_var (v := ?rdv) ?rdhv ?_); (case rdhv => rfl))
  | with_reducible refine x_c ?_
  | with_reducible refine x_op ?_
  | with_reducible refine x_cons ?_
  | with_reducible refine x_nil ?_
  | with_reducible refine x_cb ?_
  | with_reducible refine x_call ?_
  | with_reducible refine s_if ?_
  | with_reducible refine s_ret ?_
  | with_reducible refine s_retN ?_
  | with_reducible refine s_next ?_
  | with_reducible refine s_brk ?_
  | with_reducible refine s_cont ?_
  | with_reducible refine s_drop ?_
  | with_reducible refine s_par ?_
  | with_reducible refine s_par3 ?_
  | ((with_reducible refine s_p2 ?_); dsimp only [List.set])
  | ((with_reducible refine s_p3 ?_); dsimp only [List.set])
  | with_reducible refine f_r1 ?_
  | with_reducible refine f_r2 ?_
  | with_reducible refine f_l ?_
  | with_reducible refine f_t ?_
  | with_reducible refine f_s ?_
  | with_reducible refine c_r1 ?_
  | with_reducible refine c_r2 ?_
  | with_reducible refine c_l ?_
  | with_reducible refine c_t ?_
  | with_reducible refine c_s ?_
  | with_reducible refine x_tst ?_
  | with_reducible refine x_tru ?_
  | with_reducible refine x_truB ?_
  | with_reducible refine x_bl2 ?_
  | with_reducible refine x_int ?_
  | with_reducible refine x_str ?_
  | with_reducible refine x_not ?_
  | with_reducible refine x_and ?_
  | with_reducible refine x_or ?_
  | with_reducible refine x_andV ?_
  | with_reducible refine x_orV ?_
  | with_reducible refine x_notV ?_
  | with_reducible refine x_if ?_
  | with_reducible refine x_yes ?_
  | with_reducible refine x_un ?_
  | with_reducible refine x_tup ?_
  | with_reducible refine x_lst ?_
  | with_reducible refine x_callK ?_
  | with_reducible refine x_callK0 ?_
  | with_reducible refine x_bm ?_
  | with_reducible refine x_bm0 ?_
  | with_reducible refine x_tyS ?_
  | with_reducible refine x_sl ?_
  | with_reducible refine x_nopart ?_
  | with_reducible refine x_part ?_
  | with_reducible refine x_fmt0 ?_
  | with_reducible refine x_gc ?_
  | with_reducible refine x_gz ?_
  | with_reducible refine x_ckw ?_
  | with_reducible refine x_fmt ?_
  | with_reducible refine x_chain ?_
  | with_reducible refine a_ii ?_
  | ((with_reducible refine sl_to ?rda ?rdb ?_); (case rda => walk_at "len"); (case rdb => walk_at "len"))
  | ((with_reducible refine sl_from ?rda ?rdb ?_); (case rda => walk_at "len"); (case rdb => walk_at "len"))
  | ((with_reducible refine sl_mid ?rda ?rdb ?rdc ?_); (case rda => walk_at "len"); (case rdb => walk_at "len"); (case rdc => walk_at "len"))
  | ((with_reducible refine a_SS ?rda ?_); (case rda => walk_at "len"))
  | ((with_reducible refine ln_S ?rda ?_); (case rda => walk_at "len"))
  | with_reducible refine e_SS ?_
  | with_reducible refine ne_SS ?_
  | with_reducible refine s_ii ?_
  | ((with_reducible refine md_ii ?rdc ?_); (case rdc => first | decide | assumption | omega))
  | with_reducible refine n_i ?_
  | with_reducible refine e_ii ?_
  | with_reducible refine e_bb ?_
  | with_reducible refine ne_ii ?_
  | with_reducible refine ne_bb ?_
  | with_reducible refine lt_ii ?_
  | with_reducible refine lt_ss ?_
  | with_reducible refine le_ii ?_
  | with_reducible refine gt_ii ?_
  | with_reducible refine gt_ss ?_
  | with_reducible refine ge_ii ?_
  | with_reducible refine e_ss ?_
  | with_reducible refine ne_ss ?_
  | with_reducible refine is_N ?_
  | with_reducible refine is_T ?_
  | with_reducible refine is_B ?_
  | with_reducible refine isn_N ?_
  | with_reducible refine isn_T ?_
  | with_reducible refine isn_B ?_
  | with_reducible refine in_s ?_
  | with_reducible refine nin_s ?_
  | with_reducible refine i_i ?_
  | with_reducible refine i_b ?_
  | with_reducible refine ab_i ?_
  | with_reducible refine mx_ii ?_
  | with_reducible refine mn_ii ?_
  | with_reducible refine ty_N ?_
  | with_reducible refine ty_B ?_
  | with_reducible refine ty_I ?_
  | with_reducible refine ty_S ?_
  | with_reducible refine ma_s ?_
  | with_reducible refine mp_s ?_
  | with_reducible refine mdg_s ?_
  | with_reducible refine mf_s ?_
  | with_reducible refine iteT ?_
  | with_reducible refine iteF ?_
  | with_reducible refine iteNt ?_
  | with_reducible refine iteNf ?_
  | with_reducible refine iteTd (by decide) ?_
  | with_reducible refine iteFd (by decide) ?_
  | with_reducible refine iteNd (by decide) ?_
  | with_reducible refine iteNdF (by decide) ?_
  | ((with_reducible refine iteFd ?rdn ?_); (case rdn => (intro rdz; cases rdz; done)))
  | ((with_reducible refine iteNdF ?rdn ?_); (case rdn => (intro rdz; cases rdz; done))))
local macro_rules | `(tactic| walk_at "rd") => `(tactic| (repeat walk_at "rd1"))
section
variable {P : Program} {w : World} {K : PySem.W.Frag} {mg : Str → Option Value} {base : Heap}
/-! nodes with all the room -/
def sp__law_rooms_right (K : PySem.W.Frag) : Sp := fun vs H Q _ => ∃ (f c : Addr) (t : Nat), vs = [.ref f] ∧ FlowAt H f c t ∧ t + 200 < 2 ^ 60 ∧ ∀ H', FlowAt H' f c (t + 200) → Q (.bl true) H'
theorem ok__law_rooms_right (Y : Fx K mg) : FnOk P w K mg base CX0 7 Y.a__law_rooms_right Y.fd__law_rooms_right ["_law_flow_here"] (sp__law_rooms_right K) := by
  refine Y.F__law_rooms_right.ok sc__law_rooms_right (fun vs H Q E h => ?_) (fun cdv A outer st H vs Q E hr h => ?_)
  · obtain ⟨f, c, t, rfl, _⟩ := h
    rfl
  · obtain ⟨f, c, t, rfl, hFl, ht, q⟩ := h
    refine ⟨_, b__law_rooms_right Y (sp__law_same := spS (Fine 5)) (ok__law_draw Y) (ok__law_full Y) (ok__law_node_text Y) (ok__law_same Y 5) (ok_entry_room Y) (ok_node_text Y) hr, ?_⟩
    show t__law_rooms_right K _ _ _ _ _ _ _ [some (.ref f), none, none, none, none, none, none, none, none] H
    unfold t__law_rooms_right
    rw [show ("leaf" : Str) = S leafL from rfl, show ("inner" : Str) = S innerL from rfl]
    walk_at "rd"
    refine ⟨f, c, 901, t, rfl, hFl, by omega, by decide, by decide, fun r1 H1 r10 r11 hFl1 hF1 => ?_⟩
    walk_at "rd"
    refine ⟨by show 6 ≤ sizeLine; decide, fun p1 hp1 => ?_⟩
    walk_at "rd"
    refine ⟨f, c, 6, t + 1, rfl, hFl1.new hp1, by omega, by decide, by decide, fun r2 H2 r20 r21 hFl2 hF2 => ?_⟩
    obtain ⟨o1, o2⟩ := hFl1.off hp1
    refine ix_rng (lo := 100) (hi := 1000) (lst_of (hF2 p1 _ o1 o2 upd_same)) (rng_cons (by decide) (by decide) (rng_cons (by decide) (by decide) (rng_cons (by decide) (by decide) (rng_cons (by decide) (by decide) (rng_cons (by decide) (by decide) (rng_cons (by omega) (by omega) rng_nil)))))) r20 r21 fun z z0 z1 => ?_
    clear hFl hFl1 hF1 hF2 o1 o2 hp1
    walk_at "rd"
    refine fd_ii ⟨by decide, by decide⟩ ?_
    walk_at "rd"
    obtain ⟨rm, hrm⟩ : ∃ rm : Nat, (z - 1) / 4 - 6 = (rm : Int) := ⟨((z - 1) / 4 - 6).toNat, by omega⟩
    refine ⟨z, rfl, ?_⟩
    walk_at "rd"
    refine ⟨z, rfl, ?_⟩
    rw [hrm]
    walk_at "rd"
    refine ⟨by show 2 ≤ sizeLine; decide, fun p2 hp2 => ?_⟩
    walk_at "rd"
    refine ⟨by show 2 ≤ sizeLine; decide, fun p3 hp3 => ?_⟩
    have hFl3 := (hFl2.new hp2 (o := .lst [.int rm, .int rm])).new hp3 (o := .lst [.int rm, .int rm])
    refine ⟨_, _, .list [.int rm, .int rm], rfl, .lst (lst_of (same_upd hp3 _ _ upd_same)) (.cons (.int _) (.cons (.int _) .nil)), .lst (lst_of upd_same) (.cons (.int _) (.cons (.int _) .nil)), fine_lst (by show 2 ≤ 100000; decide) (all2 (fine_int _ _) (fine_int _ _)), fun H3 hS3 => ?_⟩
    replace hFl3 := hFl3.same hS3
    clear hFl2 hp2 hp3 hS3
    walk_at "rd"
    refine ⟨Nat.zero_le _, fun D hD => ?_⟩
    have oD := hFl3.off hD
    walk_at "rd"
    refine for1_mk (by decide) (by decide) (fun i σ H' => ∃ (us : List V) (es : List (List Nat × List Nat)) (y4 y5 : Option V), σ = [some (.ref f), some (.int z), some (.int rm), some (.ref D), y4, y5, none, none, none] ∧ FlowAt H' f c (t + 2 + 17 * i) ∧ H' D = some (.lst us) ∧ es.length = i ∧ EnV H' us es ∧ ∀ e ∈ es, (isT e.1 = true ∧ isT e.2 = true) ∧ e.1.length + e.2.length = rm)
      ⟨[], [], none, none, rfl, hFl3.new hD, upd_same, rfl, ⟨rfl, fun _ _ h => by cases h⟩, fun _ h => by cases h⟩ (fun i σ H' hi hV => ?_) (fun σ H' hV => ?_)
    · obtain ⟨us, es, y4, y5, rfl, hFl', hu, hel, hE, hes⟩ := hV
      walk_at "rd"
      refine ⟨f, c, (rm : Int) + 1, t + 2 + 17 * i, rfl, hFl', by omega, by omega, by omega, fun r3 H4 r30 r31 hFl4 hF4 => ?_⟩
      obtain ⟨lg, rfl⟩ : ∃ lg : Nat, r3 = (lg : Int) := ⟨r3.toNat, by omega⟩
      have hu4 := hF4 D _ oD.1 oD.2 hu
      walk_at "rd"
      refine x_tyL (lst_of hu4) ?_
      walk_at "rd"
      refine ⟨f, c, lg, t + 2 + 17 * i + 1, rfl, hFl4, by omega, by omega, fun l1 H5 hl1 hT1 hFl5 hF5 => ?_⟩
      walk_at "rd"
      refine ⟨f, c, rm - lg, t + 2 + 17 * i + 9, ?_, hFl5, by omega, by omega, fun l2 H6 hl2 hT2 hFl6 hF6 => ?_⟩
      · rw [show (rm : Int) - (lg : Int) = ((rm - lg : Nat) : Int) by omega]
      walk_at "rd"
      refine ⟨by show 2 ≤ sizeLine; decide, fun p hp => ?_⟩
      have hu6 := hF6 D _ oD.1 oD.2 (hF5 D _ oD.1 oD.2 hu4)
      have hE6 := ((hE.frm hFl' hF4).frm hFl4 hF5).frm hFl5 hF6
      have hSp := same_upd hp (o := .tup [V.str (S l1), .str (S l2)])
      have hu7 := hSp _ _ hu6
      have hE7 := (hE6.mono hSp).snoc (e := (l1, l2)) upd_same
      walk_at "rd"
      refine ap_L hu7 (by rw [hE.1]; omega) ?_
      walk_at "rd"
      refine ⟨us ++ [.ref p], es ++ [(l1, l2)], _, _, rfl, ((hFl6.new hp).keep oD.1 oD.2).le (by omega), upd_same, by rw [List.length_append, hel]; rfl, hE7.mut hu7, fun x hx => ?_⟩
      rcases List.mem_append.mp hx with h | h
      · exact hes x h
      · rw [List.mem_singleton.mp h]
        exact ⟨⟨hT1, hT2⟩, by show l1.length + l2.length = rm; omega⟩
    · obtain ⟨us, es, y4, y5, rfl, hFl', hu, hel, hE, hes⟩ := hV
      have hel4 : es.length = 4 := hel
      replace hFl' := hFl'.le (show t + 2 + 17 * (4 : Int).toNat ≤ t + 70 from Nat.le_refl _)
      clear hFl3 hD hel
      walk_at "rd"
      refine lcR1_mk (by decide) (by decide) (fun M i H2 => FlowAt H2 f c (t + 70 + 8 * i) ∧ H2 D = some (.lst us) ∧ EnV H2 us es ∧ ∃ ms : List (List Nat), H2 M = some (.lst (tv ms)) ∧ ms.length = i ∧ ∀ m ∈ ms, isT m = true ∧ m.length = rm) (fun M hM => ⟨hFl'.new hM, same_upd hM _ _ hu, hE.mono (same_upd hM), [], upd_same, rfl, fun _ h => by cases h⟩) (fun M i H2 hM hi hV => ?_) (fun M H2 hM hV => ?_)
      · obtain ⟨hFl2, hu2, hE2, ms, hm, hml, hms⟩ := hV
        have oM := hFl'.off hM
        refine ⟨rfl, ?_⟩
        walk_at "rd"
        refine ⟨f, c, rm, t + 70 + 8 * i, rfl, hFl2, by omega, by omega, fun l1 H5 hl1 hT1 hFl5 hF5 => ?_⟩
        have hm5 := hF5 M _ oM.1 oM.2 hm
        have hne : D ≠ M := fun e => by rw [e, hM] at hu; cases hu
        refine ⟨tv ms, hm5, Nat.lt_of_le_of_lt (show (tv ms).length ≤ 10 by rw [tv_len]; omega) (by decide), (hFl5.keep oM.1 oM.2).le (by omega), ?_, (hE2.frm hFl2 hF5).mut hm5, ms ++ [l1], ?_, by rw [List.length_append, hml]; rfl, fun x hx => ?_⟩
        · rw [upd_ne hne]
          exact hF5 D _ oD.1 oD.2 hu2
        · rw [upd_same, tv_app]
          rfl
        · rcases List.mem_append.mp hx with h | h
          · exact hms x h
          · rw [List.mem_singleton.mp h]
            exact ⟨hT1, hl1⟩
      · obtain ⟨hFl2, hu2, hE2, ms, hm, hml, hms⟩ := hV
        have hml3 : ms.length = 3 := hml
        replace hFl2 := hFl2.le (show t + 70 + 8 * (3 : Int).toNat ≤ t + 100 by show t + 70 + 24 ≤ t + 100; omega)
        clear hFl' hM hml hu hE
        walk_at "rd"
        refine tu_L (lst_of hm) fun b hb => ?_
        have hSb := same_upd hb (o := .tup (tv ms))
        have hFl3 := hFl2.new hb (o := .tup (tv ms))
        have hu3 := hSb _ _ hu2
        have hE3 := hE2.mono hSb
        have hb3 : (upd H2 b (.tup (tv ms))) b = some (.tup (tv ms)) := upd_same
        generalize upd H2 b (.tup (tv ms)) = H3 at hFl3 hu3 hE3 hb3
        clear hSb hb hu2 hE2 hFl2 hm
        walk_at "rd"
        refine tu_L (lst_of hu3) fun d hd => ?_
        have hSd := same_upd hd (o := .tup us)
        walk_at "rd"
        refine ⟨by show 2 ≤ sizeLine; decide, fun x7 hx7 => ?_⟩
        have hS7 := same_upd hx7 (o := .tup [V.str (S leafL), .ref d])
        have hlf : Dp K (upd (upd H3 d (.tup us)) x7 (.tup [V.str (S leafL), .ref d])) (.ref x7) (ndD (.leaf es)) := .tup (tup_of upd_same) (.cons (.str _) (.cons (.tup (same_sqt hS7 (tup_of upd_same)) (((hE3.mono hSd).mono hS7).dp)) .nil))
        have hb4 := hS7 _ _ (hSd _ _ hb3)
        have hFl4 := (hFl3.new hd (o := .tup us)).new hx7 (o := .tup [V.str (S leafL), .ref d])
        generalize upd (upd H3 d (.tup us)) x7 (.tup [V.str (S leafL), .ref d]) = H4 at hlf hb4 hFl4
        clear hS7 hx7 hSd hd hb3 hE3 hu3 hFl3
        walk_at "rd"
        refine ⟨by show 4 ≤ sizeLine; decide, fun k hk => ?_⟩
        have hSk := same_upd hk (o := .tup [V.int 0, .int 9999, .int 149, .int 1])
        walk_at "rd"
        refine ⟨by show 3 ≤ sizeLine; decide, fun x8 hx8 => ?_⟩
        have hS8 := same_upd hx8 (o := .tup [V.str (S innerL), .ref b, .ref k])
        have hin : Dp K (upd (upd H4 k (.tup [V.int 0, .int 9999, .int 149, .int 1])) x8 (.tup [V.str (S innerL), .ref b, .ref k])) (.ref x8) (ndD (.inner ms [0, 9999, 149, 1])) := .tup (tup_of upd_same) (.cons (.str _) (.cons (.tup (same_sqt hS8 (tup_of (hSk _ _ hb4))) (dp_strs _ ms)) (.cons (.tup (same_sqt hS8 (tup_of upd_same)) (dp_kv _ [0, 9999, 149, 1])) .nil)))
        have hlf5 := dp_mono (hSk.trans hS8) _ _ hlf
        have hFl5 := (hFl4.new hk (o := .tup [V.int 0, .int 9999, .int 149, .int 1])).new hx8 (o := .tup [V.str (S innerL), .ref b, .ref k])
        generalize upd (upd H4 k (.tup [V.int 0, .int 9999, .int 149, .int 1])) x8 (.tup [V.str (S innerL), .ref b, .ref k]) = H5 at hin hlf5 hFl5
        clear hSk hk hS8 hx8 hlf hb4 hFl4
        have hlT : NdT (.leaf es) := fun e he => ⟨⟨(hes e he).1.1, by have := (hes e he).2; omega⟩, (hes e he).1.2, by have := (hes e he).2; omega⟩
        have hiT : NdT (.inner ms [0, 9999, 149, 1]) := ⟨by decide, fun m hm => ⟨(hms m hm).1, by have := (hms m hm).2; omega⟩, by decide⟩
        have hlO : NdOk (.leaf es) := ⟨by omega, fun e he => ⟨⟨(hlT e he).1.1, by have := (hlT e he).1.2; omega⟩, (hlT e he).2.1, by have := (hlT e he).2.2; omega⟩⟩
        have hiO : NdOk (.inner ms [0, 9999, 149, 1]) := ⟨by omega, by decide, fun m hm => ⟨(hiT.2.1 m hm).1, by have := (hiT.2.1 m hm).2; omega⟩, by decide⟩
        have hll : ((ndT (.leaf es)).length : Int) ≤ z := by
          have e1 : (ndT (.leaf es)).length = 1 + (6 + rm) * 4 := by
            show ([76] ++ (es.map enT).flatten).length = _
            rw [List.length_append, flat_eq (n := 6 + rm) fun c hc => ?_, List.length_map, hel4]
            · rfl
            · obtain ⟨e, he, rfl⟩ := List.mem_map.mp hc
              rw [enT_len (hlT e he).1.2 (hlT e he).2.2]
              have := (hes e he).2
              omega
          omega
        have hli : ((ndT (.inner ms [0, 9999, 149, 1])).length : Int) ≤ z := by
          have e1 : (ndT (.inner ms [0, 9999, 149, 1])).length = 18 + (3 + rm) * 3 := by
            show ([73] ++ TL.numL 4 ++ (([0, 9999, 149, 1] : List Nat).map (pad 4)).flatten ++ (ms.map mkT).flatten).length = _
            rw [List.length_append, flat_eq (n := 3 + rm) fun c hc => ?_, List.length_map, hml3, TL.numL_lt (by decide), List.length_append, kids_len (ks := [0, 9999, 149, 1]) (by decide)]
            · rfl
            · obtain ⟨m, hm, rfl⟩ := List.mem_map.mp hc
              rw [mkT_len (hiT.2.1 m hm).2]
              have := (hms m hm).2
              omega
          omega
        have tl := isT_ndT hlT
        have ti := isT_ndT hiT
        walk_at "rd"
        refine ⟨_, _, rfl, hlf5, hlO, fun H6 hS6 => ?_⟩
        refine ln_S (by omega) ?_
        walk_at "rd"
        refine ⟨_, _, rfl, dp_mono hS6 _ _ hin, hiO, fun H7 hS7 => ?_⟩
        refine ln_S (by omega) ?_
        walk_at "rd"
        refine iteFd (by split <;> omega) ?_
        have hS57 := hS6.trans hS7
        walk_at "rd"
        refine ⟨_, _, rfl, dp_mono hS57 _ _ hlf5, hlO, fun H8 hS8 => ?_⟩
        have hS58 := hS57.trans hS8
        walk_at "rd"
        refine ⟨_, _, rfl, dp_mono hS58 _ _ hin, hiO, fun H9 hS9 => ?_⟩
        have hS59 := hS58.trans hS9
        walk_at "rd"
        refine ⟨by show 2 ≤ sizeLine; decide, fun u hu => ?_⟩
        have hSu := same_upd hu (o := .lst [V.str (S (ndT (.leaf es))), .str (S (ndT (.inner ms [0, 9999, 149, 1])))])
        have hS10 := hS59.trans hSu
        walk_at "rd"
        refine ⟨_, _, rfl, dp_mono hS10 _ _ hlf5, hlO, fun H11 hS11 => ?_⟩
        walk_at "rd"
        refine ⟨_, _, rfl, dp_mono (hS10.trans hS11) _ _ hin, hiO, fun H12 hS12 => ?_⟩
        walk_at "rd"
        refine ⟨by show 2 ≤ sizeLine; decide, fun v hv => ?_⟩
        have hSv := same_upd hv (o := .lst [V.str (S (ndT (.leaf es))), .str (S (ndT (.inner ms [0, 9999, 149, 1])))])
        refine ⟨_, _, .list [.str (S (ndT (.leaf es))), .str (S (ndT (.inner ms [0, 9999, 149, 1])))], rfl, .lst (lst_of (hSv _ _ (hS12 _ _ (hS11 _ _ upd_same)))) (.cons (.str _) (.cons (.str _) .nil)), .lst (lst_of upd_same) (.cons (.str _) (.cons (.str _) .nil)), fine_lst (by show 2 ≤ 100000; decide) (all2 (fine_str tl _) (fine_str ti _)), fun H13 hS13 => ?_⟩
        exact q H13 ((hFl5.same (((((hS10.trans hS11).trans hS12).trans hSv).trans hS13))).le (by omega))
end
end My

set_option Elab.async false
set_option linter.all false
set_option maxRecDepth 100000
set_option maxHeartbeats 1000000
namespace My
open PySem PySem.Spec PyProof.Rows L2
local macro_rules | `(tactic| walk_at "len") => `(tactic| first | assumption | omega | decide | (simp only [List.length_append, List.length_take, List.length_drop, List.length_cons, List.length_nil, List.length_replicate]; omega))
local macro_rules | `(tactic| walk_at "side") => `(tactic| first | assumption | exact Nat.zero_le _ | decide | omega)
local macro_rules | `(tactic| walk_at "rd1") => `(tactic| first
  | with_reducible refine s_seq ?_
  | with_reducible refine x_gsub ?_
  | with_reducible refine s_asg ?_
  | ((with_reducible refine s_gn ?_); dsimp only [List.set])
  | ((with_reducible refine x_var (v := ?rdv) ?rdhv ?_); (case rdhv => rfl))
  | with_reducible refine x_c ?_
  | with_reducible refine x_op ?_
  | with_reducible refine x_cons ?_
  | with_reducible refine x_nil ?_
  | with_reducible refine x_cb ?_
  | with_reducible refine x_call ?_
  | with_reducible refine s_if ?_
  | with_reducible refine s_ret ?_
  | with_reducible refine s_retN ?_
  | with_reducible refine s_next ?_
  | with_reducible refine s_brk ?_
  | with_reducible refine s_cont ?_
  | with_reducible refine s_drop ?_
  | with_reducible refine s_par ?_
  | with_reducible refine s_par3 ?_
  | ((with_reducible refine s_p2 ?_); dsimp only [List.set])
  | ((with_reducible refine s_p3 ?_); dsimp only [List.set])
  | with_reducible refine f_r1 ?_
  | with_reducible refine f_r2 ?_
  | with_reducible refine f_l ?_
  | with_reducible refine f_t ?_
  | with_reducible refine f_s ?_
  | with_reducible refine c_r1 ?_
  | with_reducible refine c_r2 ?_
  | with_reducible refine c_l ?_
  | with_reducible refine c_t ?_
  | with_reducible refine c_s ?_
  | with_reducible refine x_tst ?_
  | with_reducible refine x_tru ?_
  | with_reducible refine x_truB ?_
  | with_reducible refine x_bl2 ?_
  | with_reducible refine x_int ?_
  | with_reducible refine x_str ?_
  | with_reducible refine x_not ?_
  | with_reducible refine x_and ?_
  | with_reducible refine x_or ?_
  | with_reducible refine x_andV ?_
  | with_reducible refine x_orV ?_
  | with_reducible refine x_notV ?_
  | with_reducible refine x_if ?_
  | with_reducible refine x_yes ?_
  | with_reducible refine x_un ?_
  | with_reducible refine x_tup ?_
  | with_reducible refine x_lst ?_
  | with_reducible refine x_callK ?_
  | with_reducible refine x_callK0 ?_
  | with_reducible refine x_bm ?_
  | with_reducible refine x_bm0 ?_
  | with_reducible refine x_tyS ?_
  | with_reducible refine x_sl ?_
  | with_reducible refine x_nopart ?_
  | with_reducible refine x_part ?_
  | with_reducible refine x_fmt0 ?_
  | with_reducible refine x_gc ?_
  | with_reducible refine x_gz ?_
  | with_reducible refine x_ckw ?_
  | with_reducible refine x_fmt ?_
  | with_reducible refine x_chain ?_
  | with_reducible refine a_ii ?_
  | ((with_reducible refine sl_to ?rda ?rdb ?_); (case rda => walk_at "len"); (case rdb => walk_at "len"))
  | ((with_reducible refine sl_from ?rda ?rdb ?_); (case rda => walk_at "len"); (case rdb => walk_at "len"))
  | ((with_reducible refine sl_mid ?rda ?rdb ?rdc ?_); (case rda => walk_at "len"); (case rdb => walk_at "len"); (case rdc => walk_at "len"))
  | ((with_reducible refine a_SS ?rda ?_); (case rda => walk_at "len"))
  | ((with_reducible refine ln_S ?rda ?_); (case rda => walk_at "len"))
  | with_reducible refine e_SS ?_
  | with_reducible refine ne_SS ?_
  | with_reducible refine s_ii ?_
  | ((with_reducible refine md_ii ?rdc ?_); (case rdc => first | decide | assumption | omega))
  | with_reducible refine n_i ?_
  | with_reducible refine e_ii ?_
  | with_reducible refine e_bb ?_
  | with_reducible refine ne_ii ?_
  | with_reducible refine ne_bb ?_
  | with_reducible refine lt_ii ?_
  | with_reducible refine lt_ss ?_
  | with_reducible refine le_ii ?_
  | with_reducible refine gt_ii ?_
  | with_reducible refine gt_ss ?_
  | with_reducible refine ge_ii ?_
  | with_reducible refine e_ss ?_
  | with_reducible refine ne_ss ?_
  | with_reducible refine is_N ?_
  | with_reducible refine is_T ?_
  | with_reducible refine is_B ?_
  | with_reducible refine isn_N ?_
  | with_reducible refine isn_T ?_
  | with_reducible refine isn_B ?_
  | with_reducible refine in_s ?_
  | with_reducible refine nin_s ?_
  | with_reducible refine i_i ?_
  | with_reducible refine i_b ?_
  | with_reducible refine ab_i ?_
  | with_reducible refine mx_ii ?_
  | with_reducible refine mn_ii ?_
  | with_reducible refine ty_N ?_
  | with_reducible refine ty_B ?_
  | with_reducible refine ty_I ?_
  | with_reducible refine ty_S ?_
  | with_reducible refine ma_s ?_
  | with_reducible refine mp_s ?_
  | with_reducible refine mdg_s ?_
  | with_reducible refine mf_s ?_
  | with_reducible refine iteT ?_
  | with_reducible refine iteF ?_
  | with_reducible refine iteNt ?_
  | with_reducible refine iteNf ?_
  | with_reducible refine iteTd (by decide) ?_
  | with_reducible refine iteFd (by decide) ?_
  | with_reducible refine iteNd (by decide) ?_
  | with_reducible refine iteNdF (by decide) ?_
  | ((with_reducible refine iteFd ?rdn ?_); (case rdn => (intro rdz; cases rdz; done)))
  | ((with_reducible refine iteNdF ?rdn ?_); (case rdn => (intro rdz; cases rdz; done))))
local macro_rules | `(tactic| walk_at "rd") => `(tactic| (repeat walk_at "rd1"))
section
variable {P : Program} {w : World} {K : PySem.W.Frag} {mg : Str → Option Value} {base : Heap}
def spLaw (K : PySem.W.Frag) : Sp := fun vs H Q _ => ∃ (a : Addr) (ns : List Int), vs = [.ref a] ∧ SqL K H a (ns.map V.int) ∧ ns.length ≤ 63 ∧ ∀ H', Q (.bl true) H'
theorem ok_law (Y : Fx K mg) : FnOk P w K mg base CX0 8 Y.a_law Y.fd_law ["_law_script"] (spLaw K) := by
  refine Y.F_law.ok sc_law (fun vs H Q E h => ?_) (fun cdv A outer st H vs Q E hr h => ?_)
  · obtain ⟨a, ns, rfl, _⟩ := h
    rfl
  · obtain ⟨a, ns, rfl, hS, hl, q⟩ := h
    refine ⟨_, b_law Y (sp__law_same := spS (Fine 5)) (ok__law_flow Y) (ok__law_near Y) (ok__law_node Y) (ok__law_node_text Y) (ok__law_node_told Y) (ok__law_put_together Y) (ok__law_rooms_right Y) (ok__law_same Y 5) (ok_node_text Y) (ok_node_told Y) hr, ?_⟩
    show t_law K _ _ _ _ _ _ _ _ _ _ _ [some (.ref a), none, none, none, none, none, none] H
    unfold t_law
    walk_at "rd"
    refine ⟨a, ns, rfl, hS, hl, fun f c H1 hf hc hFl hS1 => ?_⟩
    walk_at "rd"
    refine ln_l (hS1.seq hS) ?_
    rw [List.length_map]
    walk_at "rd"
    have hm : 0 ≤ (if (ns.length : Int) < 8 then (ns.length : Int) else 8) ∧ (if (ns.length : Int) < 8 then (ns.length : Int) else 8) ≤ 8 := by split <;> omega
    generalize (if (ns.length : Int) < 8 then (ns.length : Int) else 8) = m at hm
    clear hS1 hf hc hS hl
    refine for1_mk (by omega) (by omega) (fun i σ H' => ∃ y2 y3 y4 y5 y6 : Option V, σ = [some (.ref a), some (.ref f), y2, y3, y4, y5, y6] ∧ FlowAt H' f c (500 * i)) ⟨_, _, _, _, _, rfl, hFl⟩ (fun i σ H0 hi hP => ?_) (fun σ H' hP => ?_)
    · obtain ⟨y2, y3, y4, y5, y6, rfl, hFl0⟩ := hP
      clear hFl
      walk_at "rd"
      refine ⟨f, c, 500 * i, rfl, hFl0, by omega, fun x nd H1 hx hW hFl1 _ => ?_⟩
      clear hFl0
      have tT := isT_ndT hW.T
      have tl := hW.len
      have tk := hW.told
      walk_at "rd"
      refine ⟨x, nd, rfl, hx, hW.ok, fun H2 hS2 => ?_⟩
      have hx2 := dp_mono hS2 _ _ hx
      have hFl2 := hFl1.same hS2
      clear hx hFl1 hS2
      walk_at "rd"
      refine ⟨x, nd, rfl, hx2, hW.ok, fun H3 hS3 => ?_⟩
      walk_at "rd"
      refine ⟨x, nd, rfl, dp_mono hS3 _ _ hx2, hW.ok, fun H4 hS4 => ?_⟩
      walk_at "rd"
      refine ⟨ndT nd, rfl, tT, by omega, fun v H5 hS5 hv => ?_⟩
      rw [tk] at hv
      walk_at "rd"
      refine ⟨by show 3 ≤ sizeLine; decide, fun u hu => ?_⟩
      have hSu := same_upd hu (o := .lst [V.str (S (ndT nd)), .str (S (ndT nd)), v])
      walk_at "rd"
      refine ⟨by show 3 ≤ sizeLine; decide, fun u2 hu2 => ?_⟩
      have hSu2 := same_upd hu2 (o := .lst [V.str (S (ndT nd)), .str (S (ndT nd)), x])
      have hS25 := (((hS3.trans hS4).trans hS5).trans hSu).trans hSu2
      refine ⟨_, _, .list [.str (S (ndT nd)), .str (S (ndT nd)), ndD nd], rfl, .lst (lst_of (hSu2 _ _ upd_same)) (.cons (.str _) (.cons (.str _) (.cons (dp_mono (hSu.trans hSu2) _ _ hv) .nil))), .lst (lst_of upd_same) (.cons (.str _) (.cons (.str _) (.cons (dp_mono hS25 _ _ hx2) .nil))), fine_lst (by show 3 ≤ 100000; decide) (all3 (fine_str tT _) (fine_str tT _) (fine_nd hW.F)), fun H6 hS6 => ?_⟩
      have hFl6 := hFl2.same (hS25.trans hS6)
      clear hS25 hSu hSu2 hS6 hv hFl2 hx2 hu hu2 hS3 hS4 hS5
      walk_at "rd"
      refine ⟨f, c, ndT nd, 500 * i + 200, rfl, hFl6, by omega, tT, by omega, fun l1 H7 hl1 hT1 hFl7 _ => ?_⟩
      walk_at "rd"
      refine ⟨f, c, l1, 500 * i + 210, rfl, hFl7, by omega, hT1, by omega, fun l2 H8 hl2 hT2 hFl8 _ => ?_⟩
      walk_at "rd"
      refine ⟨f, c, 500 * i + 220, rfl, hFl8, by omega, fun l3 H9 hl3 hT3 hFl9 _ => ?_⟩
      clear hFl6 hFl7 hFl8
      walk_at "rd"
      refine ⟨l2, rfl, hT2, by omega, fun v1 H10 hS10 hv1 => ?_⟩
      walk_at "rd"
      refine ⟨l3, rfl, hT3, by omega, fun v2 H11 hS11 hv2 => ?_⟩
      walk_at "rd"
      refine ⟨by show 2 ≤ sizeLine; decide, fun u hu => ?_⟩
      have hSu := same_upd hu (o := .lst [v1, v2])
      walk_at "rd"
      refine ⟨l2, rfl, hT2, by omega, fun v3 H12 hS12 hv3 => ?_⟩
      walk_at "rd"
      refine ⟨l3, rfl, hT3, by omega, fun v4 H13 hS13 hv4 => ?_⟩
      walk_at "rd"
      refine ⟨by show 2 ≤ sizeLine; decide, fun u2 hu2 => ?_⟩
      have hSu2 := same_upd hu2 (o := .lst [v3, v4])
      have e1 := (hS12.trans hS13).trans hSu2
      refine ⟨_, _, .list [ndO (nodeR l2), ndO (nodeR l3)], rfl, .lst (lst_of (e1 _ _ upd_same)) (.cons (dp_mono ((hS11.trans hSu).trans e1) _ _ hv1) (.cons (dp_mono (hSu.trans e1) _ _ hv2) .nil)), .lst (lst_of upd_same) (.cons (dp_mono (hS13.trans hSu2) _ _ hv3) (.cons (dp_mono hSu2 _ _ hv4) .nil)), fine_lst (by show 2 ≤ 100000; decide) (all2 (fine_ndO hT2 (by omega)) (fine_ndO hT3 (by omega))), fun H14 hS14 => ?_⟩
      have hFl14 := hFl9.same ((((hS10.trans hS11).trans hSu).trans e1).trans hS14)
      walk_at "rd"
      refine ⟨f, c, 500 * i + 260, rfl, hFl14, by omega, fun H15 hFl15 => ?_⟩
      walk_at "rd"
      exact ⟨_, _, _, _, _, rfl, hFl15.le (by omega)⟩
    · obtain ⟨y2, y3, y4, y5, y6, rfl, hFl0⟩ := hP
      walk_at "rd"
      exact q _
end
end My

set_option Elab.async false
set_option linter.all false
set_option maxRecDepth 100000
set_option maxHeartbeats 1000000
namespace My
open PySem PySem.Spec PyProof.Rows L2
theorem rel_kb_entry_room_0 {vs : List V} {us : List Value} {zs : List V} {ws : List Value} (r1 : Vals vs us) (r2 : Vals zs ws) : Vals (gV_kb_entry_room_0 vs zs) (g_kb_entry_room_0 us ws) := by
  cases r1 with
  | cons _ _ => exact .nil
  | nil =>
    cases r2 with
    | nil => exact .nil
    | cons y0 r2 =>
      cases r2 with
      | cons _ _ => exact .nil
      | nil =>
        exact (.cons y0 .nil)

theorem kbm_kb_entry_room_0 {K : PySem.W.Frag} {f : Addr} {fd : FuncData} (F : Fun K "entry_room" "entry_room" s_entry_room f fd) : KBinds K fd ["signs"] ["signs"] g_kb_entry_room_0 gV_kb_entry_room_0 := by
  obtain ⟨oc, od, kV, doc, pm, an, cdv, ct, osl, rfl, lk, hcd⟩ := F.ex
  refine ⟨fun s us ws _ hl => ?_, rel_kb_entry_room_0⟩
  have hp : ∃ y0, us = [] ∧ ws = [y0] := by
    unfold g_kb_entry_room_0 at hl
    split at hl
    · exact ⟨_, rfl, rfl⟩
    · cases hl
  obtain ⟨y0, rfl, rfl⟩ := hp
  exact BindsTo.of_eq rfl
theorem rel_kb_node_text_0 {vs : List V} {us : List Value} {zs : List V} {ws : List Value} (r1 : Vals vs us) (r2 : Vals zs ws) : Vals (gV_kb_node_text_0 vs zs) (g_kb_node_text_0 us ws) := by
  cases r1 with
  | cons _ _ => exact .nil
  | nil =>
    cases r2 with
    | nil => exact .nil
    | cons y0 r2 =>
      cases r2 with
      | cons _ _ => exact .nil
      | nil =>
        exact (.cons y0 .nil)

theorem kbm_kb_node_text_0 {K : PySem.W.Frag} {f : Addr} {fd : FuncData} (F : Fun K "node_text" "node_text" s_node_text f fd) : KBinds K fd ["node"] ["node"] g_kb_node_text_0 gV_kb_node_text_0 := by
  obtain ⟨oc, od, kV, doc, pm, an, cdv, ct, osl, rfl, lk, hcd⟩ := F.ex
  refine ⟨fun s us ws _ hl => ?_, rel_kb_node_text_0⟩
  have hp : ∃ y0, us = [] ∧ ws = [y0] := by
    unfold g_kb_node_text_0 at hl
    split at hl
    · exact ⟨_, rfl, rfl⟩
    · cases hl
  obtain ⟨y0, rfl, rfl⟩ := hp
  exact BindsTo.of_eq rfl
theorem rel_kb_node_told_0 {vs : List V} {us : List Value} {zs : List V} {ws : List Value} (r1 : Vals vs us) (r2 : Vals zs ws) : Vals (gV_kb_node_told_0 vs zs) (g_kb_node_told_0 us ws) := by
  cases r1 with
  | cons _ _ => exact .nil
  | nil =>
    cases r2 with
    | nil => exact .nil
    | cons y0 r2 =>
      cases r2 with
      | cons _ _ => exact .nil
      | nil =>
        exact (.cons y0 .nil)

theorem kbm_kb_node_told_0 {K : PySem.W.Frag} {f : Addr} {fd : FuncData} (F : Fun K "node_told" "node_told" s_node_told f fd) : KBinds K fd ["text"] ["text"] g_kb_node_told_0 gV_kb_node_told_0 := by
  obtain ⟨oc, od, kV, doc, pm, an, cdv, ct, osl, rfl, lk, hcd⟩ := F.ex
  refine ⟨fun s us ws _ hl => ?_, rel_kb_node_told_0⟩
  have hp : ∃ y0, us = [] ∧ ws = [y0] := by
    unfold g_kb_node_told_0 at hl
    split at hl
    · exact ⟨_, rfl, rfl⟩
    · cases hl
  obtain ⟨y0, rfl, rfl⟩ := hp
  exact BindsTo.of_eq rfl
def fx_mk {K : PySem.W.Frag} {h : Heap} {mg : Str → Option Value} (X : K.In h) (G : h.Ns mainGlobals mg)
    {f0 : Addr} {od0 an0 : Option Addr} {sl0 : Array (Option Value)} {oc0 kV0 dc0 pm0 cd0 ct0 : Value}
    (a0 : PySem.W.nsIn K mainGlobals "is_text" = some (some (.ref f0))) (l0 : K.lookup f0 = some ⟨oc0, od0, .func (PySem.W.fnOf "is_text" "is_text" (defArgs s_is_text) (defBody s_is_text) (defScope s_is_text) .none kV0 dc0 pm0 an0 cd0 ct0), sl0⟩) (c0 : PySem.W.codeIn K cd0 "is_text" = true) (k0 : PySem.W.keepIn K (.ref f0) = true)
    {f1 : Addr} {od1 an1 : Option Addr} {sl1 : Array (Option Value)} {oc1 kV1 dc1 pm1 cd1 ct1 : Value}
    (a1 : PySem.W.nsIn K mainGlobals "number_at" = some (some (.ref f1))) (l1 : K.lookup f1 = some ⟨oc1, od1, .func (PySem.W.fnOf "number_at" "number_at" (defArgs s_number_at) (defBody s_number_at) (defScope s_number_at) .none kV1 dc1 pm1 an1 cd1 ct1), sl1⟩) (c1 : PySem.W.codeIn K cd1 "number_at" = true) (k1 : PySem.W.keepIn K (.ref f1) = true)
    {f2 : Addr} {od2 an2 : Option Addr} {sl2 : Array (Option Value)} {oc2 kV2 dc2 pm2 cd2 ct2 : Value}
    (a2 : PySem.W.nsIn K mainGlobals "entry_room" = some (some (.ref f2))) (l2 : K.lookup f2 = some ⟨oc2, od2, .func (PySem.W.fnOf "entry_room" "entry_room" (defArgs s_entry_room) (defBody s_entry_room) (defScope s_entry_room) .none kV2 dc2 pm2 an2 cd2 ct2), sl2⟩) (c2 : PySem.W.codeIn K cd2 "entry_room" = true) (k2 : PySem.W.keepIn K (.ref f2) = true)
    {f3 : Addr} {od3 an3 : Option Addr} {sl3 : Array (Option Value)} {oc3 kV3 dc3 pm3 cd3 ct3 : Value}
    (a3 : PySem.W.nsIn K mainGlobals "node_text" = some (some (.ref f3))) (l3 : K.lookup f3 = some ⟨oc3, od3, .func (PySem.W.fnOf "node_text" "node_text" (defArgs s_node_text) (defBody s_node_text) (defScope s_node_text) .none kV3 dc3 pm3 an3 cd3 ct3), sl3⟩) (c3 : PySem.W.codeIn K cd3 "node_text" = true) (k3 : PySem.W.keepIn K (.ref f3) = true)
    {f4 : Addr} {od4 an4 : Option Addr} {sl4 : Array (Option Value)} {oc4 kV4 dc4 pm4 cd4 ct4 : Value}
    (a4 : PySem.W.nsIn K mainGlobals "node_told" = some (some (.ref f4))) (l4 : K.lookup f4 = some ⟨oc4, od4, .func (PySem.W.fnOf "node_told" "node_told" (defArgs s_node_told) (defBody s_node_told) (defScope s_node_told) .none kV4 dc4 pm4 an4 cd4 ct4), sl4⟩) (c4 : PySem.W.codeIn K cd4 "node_told" = true) (k4 : PySem.W.keepIn K (.ref f4) = true)
    {f5 : Addr} {od5 an5 : Option Addr} {sl5 : Array (Option Value)} {oc5 kV5 dc5 pm5 cd5 ct5 : Value}
    (a5 : PySem.W.nsIn K mainGlobals "leaf_told" = some (some (.ref f5))) (l5 : K.lookup f5 = some ⟨oc5, od5, .func (PySem.W.fnOf "leaf_told" "leaf_told" (defArgs s_leaf_told) (defBody s_leaf_told) (defScope s_leaf_told) .none kV5 dc5 pm5 an5 cd5 ct5), sl5⟩) (c5 : PySem.W.codeIn K cd5 "leaf_told" = true) (k5 : PySem.W.keepIn K (.ref f5) = true)
    {f6 : Addr} {od6 an6 : Option Addr} {sl6 : Array (Option Value)} {oc6 kV6 dc6 pm6 cd6 ct6 : Value}
    (a6 : PySem.W.nsIn K mainGlobals "inner_told" = some (some (.ref f6))) (l6 : K.lookup f6 = some ⟨oc6, od6, .func (PySem.W.fnOf "inner_told" "inner_told" (defArgs s_inner_told) (defBody s_inner_told) (defScope s_inner_told) .none kV6 dc6 pm6 an6 cd6 ct6), sl6⟩) (c6 : PySem.W.codeIn K cd6 "inner_told" = true) (k6 : PySem.W.keepIn K (.ref f6) = true)
    {f7 : Addr} {od7 an7 : Option Addr} {sl7 : Array (Option Value)} {oc7 kV7 dc7 pm7 cd7 ct7 : Value}
    (a7 : PySem.W.nsIn K mainGlobals "_law_flow" = some (some (.ref f7))) (l7 : K.lookup f7 = some ⟨oc7, od7, .func (PySem.W.fnOf "_law_flow" "_law_flow" (defArgs s__law_flow) (defBody s__law_flow) (defScope s__law_flow) .none kV7 dc7 pm7 an7 cd7 ct7), sl7⟩) (c7 : PySem.W.codeIn K cd7 "_law_flow" = true) (k7 : PySem.W.keepIn K (.ref f7) = true)
    {f8 : Addr} {od8 an8 : Option Addr} {sl8 : Array (Option Value)} {oc8 kV8 dc8 pm8 cd8 ct8 : Value}
    (a8 : PySem.W.nsIn K mainGlobals "_law_draw" = some (some (.ref f8))) (l8 : K.lookup f8 = some ⟨oc8, od8, .func (PySem.W.fnOf "_law_draw" "_law_draw" (defArgs s__law_draw) (defBody s__law_draw) (defScope s__law_draw) .none kV8 dc8 pm8 an8 cd8 ct8), sl8⟩) (c8 : PySem.W.codeIn K cd8 "_law_draw" = true) (k8 : PySem.W.keepIn K (.ref f8) = true)
    {f9 : Addr} {od9 an9 : Option Addr} {sl9 : Array (Option Value)} {oc9 kV9 dc9 pm9 cd9 ct9 : Value}
    (a9 : PySem.W.nsIn K mainGlobals "_law_sign" = some (some (.ref f9))) (l9 : K.lookup f9 = some ⟨oc9, od9, .func (PySem.W.fnOf "_law_sign" "_law_sign" (defArgs s__law_sign) (defBody s__law_sign) (defScope s__law_sign) .none kV9 dc9 pm9 an9 cd9 ct9), sl9⟩) (c9 : PySem.W.codeIn K cd9 "_law_sign" = true) (k9 : PySem.W.keepIn K (.ref f9) = true)
    {f10 : Addr} {od10 an10 : Option Addr} {sl10 : Array (Option Value)} {oc10 kV10 dc10 pm10 cd10 ct10 : Value}
    (a10 : PySem.W.nsIn K mainGlobals "_law_text" = some (some (.ref f10))) (l10 : K.lookup f10 = some ⟨oc10, od10, .func (PySem.W.fnOf "_law_text" "_law_text" (defArgs s__law_text) (defBody s__law_text) (defScope s__law_text) .none kV10 dc10 pm10 an10 cd10 ct10), sl10⟩) (c10 : PySem.W.codeIn K cd10 "_law_text" = true) (k10 : PySem.W.keepIn K (.ref f10) = true)
    {f11 : Addr} {od11 an11 : Option Addr} {sl11 : Array (Option Value)} {oc11 kV11 dc11 pm11 cd11 ct11 : Value}
    (a11 : PySem.W.nsIn K mainGlobals "_law_same" = some (some (.ref f11))) (l11 : K.lookup f11 = some ⟨oc11, od11, .func (PySem.W.fnOf "_law_same" "_law_same" (defArgs s__law_same) (defBody s__law_same) (defScope s__law_same) .none kV11 dc11 pm11 an11 cd11 ct11), sl11⟩) (c11 : PySem.W.codeIn K cd11 "_law_same" = true) (k11 : PySem.W.keepIn K (.ref f11) = true)
    {f12 : Addr} {od12 an12 : Option Addr} {sl12 : Array (Option Value)} {oc12 kV12 dc12 pm12 cd12 ct12 : Value}
    (a12 : PySem.W.nsIn K mainGlobals "_law_part" = some (some (.ref f12))) (l12 : K.lookup f12 = some ⟨oc12, od12, .func (PySem.W.fnOf "_law_part" "_law_part" (defArgs s__law_part) (defBody s__law_part) (defScope s__law_part) .none kV12 dc12 pm12 an12 cd12 ct12), sl12⟩) (c12 : PySem.W.codeIn K cd12 "_law_part" = true) (k12 : PySem.W.keepIn K (.ref f12) = true)
    {f13 : Addr} {od13 an13 : Option Addr} {sl13 : Array (Option Value)} {oc13 kV13 dc13 pm13 cd13 ct13 : Value}
    (a13 : PySem.W.nsIn K mainGlobals "_law_node_text" = some (some (.ref f13))) (l13 : K.lookup f13 = some ⟨oc13, od13, .func (PySem.W.fnOf "_law_node_text" "_law_node_text" (defArgs s__law_node_text) (defBody s__law_node_text) (defScope s__law_node_text) .none kV13 dc13 pm13 an13 cd13 ct13), sl13⟩) (c13 : PySem.W.codeIn K cd13 "_law_node_text" = true) (k13 : PySem.W.keepIn K (.ref f13) = true)
    {f14 : Addr} {od14 an14 : Option Addr} {sl14 : Array (Option Value)} {oc14 kV14 dc14 pm14 cd14 ct14 : Value}
    (a14 : PySem.W.nsIn K mainGlobals "_law_leaf_told" = some (some (.ref f14))) (l14 : K.lookup f14 = some ⟨oc14, od14, .func (PySem.W.fnOf "_law_leaf_told" "_law_leaf_told" (defArgs s__law_leaf_told) (defBody s__law_leaf_told) (defScope s__law_leaf_told) .none kV14 dc14 pm14 an14 cd14 ct14), sl14⟩) (c14 : PySem.W.codeIn K cd14 "_law_leaf_told" = true) (k14 : PySem.W.keepIn K (.ref f14) = true)
    {f15 : Addr} {od15 an15 : Option Addr} {sl15 : Array (Option Value)} {oc15 kV15 dc15 pm15 cd15 ct15 : Value}
    (a15 : PySem.W.nsIn K mainGlobals "_law_node_told" = some (some (.ref f15))) (l15 : K.lookup f15 = some ⟨oc15, od15, .func (PySem.W.fnOf "_law_node_told" "_law_node_told" (defArgs s__law_node_told) (defBody s__law_node_told) (defScope s__law_node_told) .none kV15 dc15 pm15 an15 cd15 ct15), sl15⟩) (c15 : PySem.W.codeIn K cd15 "_law_node_told" = true) (k15 : PySem.W.keepIn K (.ref f15) = true)
    {f16 : Addr} {od16 an16 : Option Addr} {sl16 : Array (Option Value)} {oc16 kV16 dc16 pm16 cd16 ct16 : Value}
    (a16 : PySem.W.nsIn K mainGlobals "_law_node" = some (some (.ref f16))) (l16 : K.lookup f16 = some ⟨oc16, od16, .func (PySem.W.fnOf "_law_node" "_law_node" (defArgs s__law_node) (defBody s__law_node) (defScope s__law_node) .none kV16 dc16 pm16 an16 cd16 ct16), sl16⟩) (c16 : PySem.W.codeIn K cd16 "_law_node" = true) (k16 : PySem.W.keepIn K (.ref f16) = true)
    {f17 : Addr} {od17 an17 : Option Addr} {sl17 : Array (Option Value)} {oc17 kV17 dc17 pm17 cd17 ct17 : Value}
    (a17 : PySem.W.nsIn K mainGlobals "_law_near" = some (some (.ref f17))) (l17 : K.lookup f17 = some ⟨oc17, od17, .func (PySem.W.fnOf "_law_near" "_law_near" (defArgs s__law_near) (defBody s__law_near) (defScope s__law_near) .none kV17 dc17 pm17 an17 cd17 ct17), sl17⟩) (c17 : PySem.W.codeIn K cd17 "_law_near" = true) (k17 : PySem.W.keepIn K (.ref f17) = true)
    {f18 : Addr} {od18 an18 : Option Addr} {sl18 : Array (Option Value)} {oc18 kV18 dc18 pm18 cd18 ct18 : Value}
    (a18 : PySem.W.nsIn K mainGlobals "_law_put_together" = some (some (.ref f18))) (l18 : K.lookup f18 = some ⟨oc18, od18, .func (PySem.W.fnOf "_law_put_together" "_law_put_together" (defArgs s__law_put_together) (defBody s__law_put_together) (defScope s__law_put_together) .none kV18 dc18 pm18 an18 cd18 ct18), sl18⟩) (c18 : PySem.W.codeIn K cd18 "_law_put_together" = true) (k18 : PySem.W.keepIn K (.ref f18) = true)
    {f19 : Addr} {od19 an19 : Option Addr} {sl19 : Array (Option Value)} {oc19 kV19 dc19 pm19 cd19 ct19 : Value}
    (a19 : PySem.W.nsIn K mainGlobals "_law_full" = some (some (.ref f19))) (l19 : K.lookup f19 = some ⟨oc19, od19, .func (PySem.W.fnOf "_law_full" "_law_full" (defArgs s__law_full) (defBody s__law_full) (defScope s__law_full) .none kV19 dc19 pm19 an19 cd19 ct19), sl19⟩) (c19 : PySem.W.codeIn K cd19 "_law_full" = true) (k19 : PySem.W.keepIn K (.ref f19) = true)
    {f20 : Addr} {od20 an20 : Option Addr} {sl20 : Array (Option Value)} {oc20 kV20 dc20 pm20 cd20 ct20 : Value}
    (a20 : PySem.W.nsIn K mainGlobals "_law_rooms_right" = some (some (.ref f20))) (l20 : K.lookup f20 = some ⟨oc20, od20, .func (PySem.W.fnOf "_law_rooms_right" "_law_rooms_right" (defArgs s__law_rooms_right) (defBody s__law_rooms_right) (defScope s__law_rooms_right) .none kV20 dc20 pm20 an20 cd20 ct20), sl20⟩) (c20 : PySem.W.codeIn K cd20 "_law_rooms_right" = true) (k20 : PySem.W.keepIn K (.ref f20) = true)
    {f21 : Addr} {od21 an21 : Option Addr} {sl21 : Array (Option Value)} {oc21 kV21 dc21 pm21 cd21 ct21 : Value}
    (a21 : PySem.W.nsIn K mainGlobals "law" = some (some (.ref f21))) (l21 : K.lookup f21 = some ⟨oc21, od21, .func (PySem.W.fnOf "law" "law" (defArgs s_law) (defBody s_law) (defScope s_law) .none kV21 dc21 pm21 an21 cd21 ct21), sl21⟩) (c21 : PySem.W.codeIn K cd21 "law" = true) (k21 : PySem.W.keepIn K (.ref f21) = true)
    (z0 : PySem.W.nsIn K mainGlobals "abs" = some none)
    (z1 : PySem.W.nsIn K mainGlobals "bool" = some none)
    (z2 : PySem.W.nsIn K mainGlobals "int" = some none)
    (z3 : PySem.W.nsIn K mainGlobals "isinstance" = some none)
    (z4 : PySem.W.nsIn K mainGlobals "len" = some none)
    (z5 : PySem.W.nsIn K mainGlobals "list" = some none)
    (z6 : PySem.W.nsIn K mainGlobals "max" = some none)
    (z7 : PySem.W.nsIn K mainGlobals "min" = some none)
    (z8 : PySem.W.nsIn K mainGlobals "range" = some none)
    (z9 : PySem.W.nsIn K mainGlobals "str" = some none)
    (z10 : PySem.W.nsIn K mainGlobals "tuple" = some none)
    (z11 : PySem.W.nsIn K mainGlobals "type" = some none) : Fx K mg :=
  {a_is_text := f0, fd_is_text := _, F_is_text := fun_mk (st := s_is_text) l0 c0 k0, g_is_text := PySem.W.mg_of X G a0, b_is_text := (fun_mk (st := s_is_text) l0 c0 k0).binds (ps := ["value"]) fun _ _ _ _ _ _ us hl => match us, hl with | [_], _ => rfl,
    a_number_at := f1, fd_number_at := _, F_number_at := fun_mk (st := s_number_at) l1 c1 k1, g_number_at := PySem.W.mg_of X G a1, b_number_at := (fun_mk (st := s_number_at) l1 c1 k1).binds (ps := ["text", "at", "size"]) fun _ _ _ _ _ _ us hl => match us, hl with | [_, _, _], _ => rfl,
    a_entry_room := f2, fd_entry_room := _, F_entry_room := fun_mk (st := s_entry_room) l2 c2 k2, g_entry_room := PySem.W.mg_of X G a2, b_entry_room := (fun_mk (st := s_entry_room) l2 c2 k2).binds (ps := ["signs"]) fun _ _ _ _ _ _ us hl => match us, hl with | [_], _ => rfl,
    a_node_text := f3, fd_node_text := _, F_node_text := fun_mk (st := s_node_text) l3 c3 k3, g_node_text := PySem.W.mg_of X G a3, b_node_text := (fun_mk (st := s_node_text) l3 c3 k3).binds (ps := ["node"]) fun _ _ _ _ _ _ us hl => match us, hl with | [_], _ => rfl,
    a_node_told := f4, fd_node_told := _, F_node_told := fun_mk (st := s_node_told) l4 c4 k4, g_node_told := PySem.W.mg_of X G a4, b_node_told := (fun_mk (st := s_node_told) l4 c4 k4).binds (ps := ["text"]) fun _ _ _ _ _ _ us hl => match us, hl with | [_], _ => rfl,
    a_leaf_told := f5, fd_leaf_told := _, F_leaf_told := fun_mk (st := s_leaf_told) l5 c5 k5, g_leaf_told := PySem.W.mg_of X G a5, b_leaf_told := (fun_mk (st := s_leaf_told) l5 c5 k5).binds (ps := ["text"]) fun _ _ _ _ _ _ us hl => match us, hl with | [_], _ => rfl,
    a_inner_told := f6, fd_inner_told := _, F_inner_told := fun_mk (st := s_inner_told) l6 c6 k6, g_inner_told := PySem.W.mg_of X G a6, b_inner_told := (fun_mk (st := s_inner_told) l6 c6 k6).binds (ps := ["text"]) fun _ _ _ _ _ _ us hl => match us, hl with | [_], _ => rfl,
    a__law_flow := f7, fd__law_flow := _, F__law_flow := fun_mk (st := s__law_flow) l7 c7 k7, g__law_flow := PySem.W.mg_of X G a7, b__law_flow := (fun_mk (st := s__law_flow) l7 c7 k7).binds (ps := ["_law_script"]) fun _ _ _ _ _ _ us hl => match us, hl with | [_], _ => rfl,
    a__law_draw := f8, fd__law_draw := _, F__law_draw := fun_mk (st := s__law_draw) l8 c8 k8, g__law_draw := PySem.W.mg_of X G a8, b__law_draw := (fun_mk (st := s__law_draw) l8 c8 k8).binds (ps := ["_law_flow_here", "_law_many"]) fun _ _ _ _ _ _ us hl => match us, hl with | [_, _], _ => rfl,
    a__law_sign := f9, fd__law_sign := _, F__law_sign := fun_mk (st := s__law_sign) l9 c9 k9, g__law_sign := PySem.W.mg_of X G a9, b__law_sign := (fun_mk (st := s__law_sign) l9 c9 k9).binds (ps := ["_law_flow_here"]) fun _ _ _ _ _ _ us hl => match us, hl with | [_], _ => rfl,
    a__law_text := f10, fd__law_text := _, F__law_text := fun_mk (st := s__law_text) l10 c10 k10, g__law_text := PySem.W.mg_of X G a10, b__law_text := (fun_mk (st := s__law_text) l10 c10 k10).binds (ps := ["_law_flow_here", "_law_most"]) fun _ _ _ _ _ _ us hl => match us, hl with | [_, _], _ => rfl,
    a__law_same := f11, fd__law_same := _, F__law_same := fun_mk (st := s__law_same) l11 c11 k11, g__law_same := PySem.W.mg_of X G a11, b__law_same := (fun_mk (st := s__law_same) l11 c11 k11).binds (ps := ["_law_found", "_law_due"]) fun _ _ _ _ _ _ us hl => match us, hl with | [_, _], _ => rfl,
    a__law_part := f12, fd__law_part := _, F__law_part := fun_mk (st := s__law_part) l12 c12 k12, g__law_part := PySem.W.mg_of X G a12, b__law_part := (fun_mk (st := s__law_part) l12 c12 k12).binds (ps := ["_law_text_here", "_law_at", "_law_many"]) fun _ _ _ _ _ _ us hl => match us, hl with | [_, _, _], _ => rfl,
    a__law_node_text := f13, fd__law_node_text := _, F__law_node_text := fun_mk (st := s__law_node_text) l13 c13 k13, g__law_node_text := PySem.W.mg_of X G a13, b__law_node_text := (fun_mk (st := s__law_node_text) l13 c13 k13).binds (ps := ["_law_node_here"]) fun _ _ _ _ _ _ us hl => match us, hl with | [_], _ => rfl,
    a__law_leaf_told := f14, fd__law_leaf_told := _, F__law_leaf_told := fun_mk (st := s__law_leaf_told) l14 c14 k14, g__law_leaf_told := PySem.W.mg_of X G a14, b__law_leaf_told := (fun_mk (st := s__law_leaf_told) l14 c14 k14).binds (ps := ["_law_text_here"]) fun _ _ _ _ _ _ us hl => match us, hl with | [_], _ => rfl,
    a__law_node_told := f15, fd__law_node_told := _, F__law_node_told := fun_mk (st := s__law_node_told) l15 c15 k15, g__law_node_told := PySem.W.mg_of X G a15, b__law_node_told := (fun_mk (st := s__law_node_told) l15 c15 k15).binds (ps := ["_law_text_here"]) fun _ _ _ _ _ _ us hl => match us, hl with | [_], _ => rfl,
    a__law_node := f16, fd__law_node := _, F__law_node := fun_mk (st := s__law_node) l16 c16 k16, g__law_node := PySem.W.mg_of X G a16, b__law_node := (fun_mk (st := s__law_node) l16 c16 k16).binds (ps := ["_law_flow_here"]) fun _ _ _ _ _ _ us hl => match us, hl with | [_], _ => rfl,
    a__law_near := f17, fd__law_near := _, F__law_near := fun_mk (st := s__law_near) l17 c17 k17, g__law_near := PySem.W.mg_of X G a17, b__law_near := (fun_mk (st := s__law_near) l17 c17 k17).binds (ps := ["_law_flow_here", "_law_text_here"]) fun _ _ _ _ _ _ us hl => match us, hl with | [_, _], _ => rfl,
    a__law_put_together := f18, fd__law_put_together := _, F__law_put_together := fun_mk (st := s__law_put_together) l18 c18 k18, g__law_put_together := PySem.W.mg_of X G a18, b__law_put_together := (fun_mk (st := s__law_put_together) l18 c18 k18).binds (ps := ["_law_flow_here"]) fun _ _ _ _ _ _ us hl => match us, hl with | [_], _ => rfl,
    a__law_full := f19, fd__law_full := _, F__law_full := fun_mk (st := s__law_full) l19 c19 k19, g__law_full := PySem.W.mg_of X G a19, b__law_full := (fun_mk (st := s__law_full) l19 c19 k19).binds (ps := ["_law_flow_here", "_law_long"]) fun _ _ _ _ _ _ us hl => match us, hl with | [_, _], _ => rfl,
    a__law_rooms_right := f20, fd__law_rooms_right := _, F__law_rooms_right := fun_mk (st := s__law_rooms_right) l20 c20 k20, g__law_rooms_right := PySem.W.mg_of X G a20, b__law_rooms_right := (fun_mk (st := s__law_rooms_right) l20 c20 k20).binds (ps := ["_law_flow_here"]) fun _ _ _ _ _ _ us hl => match us, hl with | [_], _ => rfl,
    a_law := f21, fd_law := _, F_law := fun_mk (st := s_law) l21 c21 k21, g_law := PySem.W.mg_of X G a21, b_law := (fun_mk (st := s_law) l21 c21 k21).binds (ps := ["_law_script"]) fun _ _ _ _ _ _ us hl => match us, hl with | [_], _ => rfl,
    kb_entry_room_0 := kbm_kb_entry_room_0 (fun_mk (st := s_entry_room) l2 c2 k2),
    kb_node_text_0 := kbm_kb_node_text_0 (fun_mk (st := s_node_text) l3 c3 k3),
    kb_node_told_0 := kbm_kb_node_told_0 (fun_mk (st := s_node_told) l4 c4 k4),
    m_abs := PySem.W.mg_none_of X G z0,
    m_bool := PySem.W.mg_none_of X G z1,
    m_int := PySem.W.mg_none_of X G z2,
    m_isinstance := PySem.W.mg_none_of X G z3,
    m_len := PySem.W.mg_none_of X G z4,
    m_list := PySem.W.mg_none_of X G z5,
    m_max := PySem.W.mg_none_of X G z6,
    m_min := PySem.W.mg_none_of X G z7,
    m_range := PySem.W.mg_none_of X G z8,
    m_str := PySem.W.mg_none_of X G z9,
    m_tuple := PySem.W.mg_none_of X G z10,
    m_type := PySem.W.mg_none_of X G z11 }
theorem all_mk {l : PySem.W.OpenLaw} {w : World} {K : PySem.W.Frag} {h : Heap} {mg : Str → Option Value} {fa : Addr} (X : K.In h) (G : h.Ns mainGlobals mg) (hfa : mg "law" = some (.ref fa))
    {f0 : Addr} {od0 an0 : Option Addr} {sl0 : Array (Option Value)} {oc0 kV0 dc0 pm0 cd0 ct0 : Value}
    (a0 : PySem.W.nsIn K mainGlobals "is_text" = some (some (.ref f0))) (l0 : K.lookup f0 = some ⟨oc0, od0, .func (PySem.W.fnOf "is_text" "is_text" (defArgs s_is_text) (defBody s_is_text) (defScope s_is_text) .none kV0 dc0 pm0 an0 cd0 ct0), sl0⟩) (c0 : PySem.W.codeIn K cd0 "is_text" = true) (k0 : PySem.W.keepIn K (.ref f0) = true)
    {f1 : Addr} {od1 an1 : Option Addr} {sl1 : Array (Option Value)} {oc1 kV1 dc1 pm1 cd1 ct1 : Value}
    (a1 : PySem.W.nsIn K mainGlobals "number_at" = some (some (.ref f1))) (l1 : K.lookup f1 = some ⟨oc1, od1, .func (PySem.W.fnOf "number_at" "number_at" (defArgs s_number_at) (defBody s_number_at) (defScope s_number_at) .none kV1 dc1 pm1 an1 cd1 ct1), sl1⟩) (c1 : PySem.W.codeIn K cd1 "number_at" = true) (k1 : PySem.W.keepIn K (.ref f1) = true)
    {f2 : Addr} {od2 an2 : Option Addr} {sl2 : Array (Option Value)} {oc2 kV2 dc2 pm2 cd2 ct2 : Value}
    (a2 : PySem.W.nsIn K mainGlobals "entry_room" = some (some (.ref f2))) (l2 : K.lookup f2 = some ⟨oc2, od2, .func (PySem.W.fnOf "entry_room" "entry_room" (defArgs s_entry_room) (defBody s_entry_room) (defScope s_entry_room) .none kV2 dc2 pm2 an2 cd2 ct2), sl2⟩) (c2 : PySem.W.codeIn K cd2 "entry_room" = true) (k2 : PySem.W.keepIn K (.ref f2) = true)
    {f3 : Addr} {od3 an3 : Option Addr} {sl3 : Array (Option Value)} {oc3 kV3 dc3 pm3 cd3 ct3 : Value}
    (a3 : PySem.W.nsIn K mainGlobals "node_text" = some (some (.ref f3))) (l3 : K.lookup f3 = some ⟨oc3, od3, .func (PySem.W.fnOf "node_text" "node_text" (defArgs s_node_text) (defBody s_node_text) (defScope s_node_text) .none kV3 dc3 pm3 an3 cd3 ct3), sl3⟩) (c3 : PySem.W.codeIn K cd3 "node_text" = true) (k3 : PySem.W.keepIn K (.ref f3) = true)
    {f4 : Addr} {od4 an4 : Option Addr} {sl4 : Array (Option Value)} {oc4 kV4 dc4 pm4 cd4 ct4 : Value}
    (a4 : PySem.W.nsIn K mainGlobals "node_told" = some (some (.ref f4))) (l4 : K.lookup f4 = some ⟨oc4, od4, .func (PySem.W.fnOf "node_told" "node_told" (defArgs s_node_told) (defBody s_node_told) (defScope s_node_told) .none kV4 dc4 pm4 an4 cd4 ct4), sl4⟩) (c4 : PySem.W.codeIn K cd4 "node_told" = true) (k4 : PySem.W.keepIn K (.ref f4) = true)
    {f5 : Addr} {od5 an5 : Option Addr} {sl5 : Array (Option Value)} {oc5 kV5 dc5 pm5 cd5 ct5 : Value}
    (a5 : PySem.W.nsIn K mainGlobals "leaf_told" = some (some (.ref f5))) (l5 : K.lookup f5 = some ⟨oc5, od5, .func (PySem.W.fnOf "leaf_told" "leaf_told" (defArgs s_leaf_told) (defBody s_leaf_told) (defScope s_leaf_told) .none kV5 dc5 pm5 an5 cd5 ct5), sl5⟩) (c5 : PySem.W.codeIn K cd5 "leaf_told" = true) (k5 : PySem.W.keepIn K (.ref f5) = true)
    {f6 : Addr} {od6 an6 : Option Addr} {sl6 : Array (Option Value)} {oc6 kV6 dc6 pm6 cd6 ct6 : Value}
    (a6 : PySem.W.nsIn K mainGlobals "inner_told" = some (some (.ref f6))) (l6 : K.lookup f6 = some ⟨oc6, od6, .func (PySem.W.fnOf "inner_told" "inner_told" (defArgs s_inner_told) (defBody s_inner_told) (defScope s_inner_told) .none kV6 dc6 pm6 an6 cd6 ct6), sl6⟩) (c6 : PySem.W.codeIn K cd6 "inner_told" = true) (k6 : PySem.W.keepIn K (.ref f6) = true)
    {f7 : Addr} {od7 an7 : Option Addr} {sl7 : Array (Option Value)} {oc7 kV7 dc7 pm7 cd7 ct7 : Value}
    (a7 : PySem.W.nsIn K mainGlobals "_law_flow" = some (some (.ref f7))) (l7 : K.lookup f7 = some ⟨oc7, od7, .func (PySem.W.fnOf "_law_flow" "_law_flow" (defArgs s__law_flow) (defBody s__law_flow) (defScope s__law_flow) .none kV7 dc7 pm7 an7 cd7 ct7), sl7⟩) (c7 : PySem.W.codeIn K cd7 "_law_flow" = true) (k7 : PySem.W.keepIn K (.ref f7) = true)
    {f8 : Addr} {od8 an8 : Option Addr} {sl8 : Array (Option Value)} {oc8 kV8 dc8 pm8 cd8 ct8 : Value}
    (a8 : PySem.W.nsIn K mainGlobals "_law_draw" = some (some (.ref f8))) (l8 : K.lookup f8 = some ⟨oc8, od8, .func (PySem.W.fnOf "_law_draw" "_law_draw" (defArgs s__law_draw) (defBody s__law_draw) (defScope s__law_draw) .none kV8 dc8 pm8 an8 cd8 ct8), sl8⟩) (c8 : PySem.W.codeIn K cd8 "_law_draw" = true) (k8 : PySem.W.keepIn K (.ref f8) = true)
    {f9 : Addr} {od9 an9 : Option Addr} {sl9 : Array (Option Value)} {oc9 kV9 dc9 pm9 cd9 ct9 : Value}
    (a9 : PySem.W.nsIn K mainGlobals "_law_sign" = some (some (.ref f9))) (l9 : K.lookup f9 = some ⟨oc9, od9, .func (PySem.W.fnOf "_law_sign" "_law_sign" (defArgs s__law_sign) (defBody s__law_sign) (defScope s__law_sign) .none kV9 dc9 pm9 an9 cd9 ct9), sl9⟩) (c9 : PySem.W.codeIn K cd9 "_law_sign" = true) (k9 : PySem.W.keepIn K (.ref f9) = true)
    {f10 : Addr} {od10 an10 : Option Addr} {sl10 : Array (Option Value)} {oc10 kV10 dc10 pm10 cd10 ct10 : Value}
    (a10 : PySem.W.nsIn K mainGlobals "_law_text" = some (some (.ref f10))) (l10 : K.lookup f10 = some ⟨oc10, od10, .func (PySem.W.fnOf "_law_text" "_law_text" (defArgs s__law_text) (defBody s__law_text) (defScope s__law_text) .none kV10 dc10 pm10 an10 cd10 ct10), sl10⟩) (c10 : PySem.W.codeIn K cd10 "_law_text" = true) (k10 : PySem.W.keepIn K (.ref f10) = true)
    {f11 : Addr} {od11 an11 : Option Addr} {sl11 : Array (Option Value)} {oc11 kV11 dc11 pm11 cd11 ct11 : Value}
    (a11 : PySem.W.nsIn K mainGlobals "_law_same" = some (some (.ref f11))) (l11 : K.lookup f11 = some ⟨oc11, od11, .func (PySem.W.fnOf "_law_same" "_law_same" (defArgs s__law_same) (defBody s__law_same) (defScope s__law_same) .none kV11 dc11 pm11 an11 cd11 ct11), sl11⟩) (c11 : PySem.W.codeIn K cd11 "_law_same" = true) (k11 : PySem.W.keepIn K (.ref f11) = true)
    {f12 : Addr} {od12 an12 : Option Addr} {sl12 : Array (Option Value)} {oc12 kV12 dc12 pm12 cd12 ct12 : Value}
    (a12 : PySem.W.nsIn K mainGlobals "_law_part" = some (some (.ref f12))) (l12 : K.lookup f12 = some ⟨oc12, od12, .func (PySem.W.fnOf "_law_part" "_law_part" (defArgs s__law_part) (defBody s__law_part) (defScope s__law_part) .none kV12 dc12 pm12 an12 cd12 ct12), sl12⟩) (c12 : PySem.W.codeIn K cd12 "_law_part" = true) (k12 : PySem.W.keepIn K (.ref f12) = true)
    {f13 : Addr} {od13 an13 : Option Addr} {sl13 : Array (Option Value)} {oc13 kV13 dc13 pm13 cd13 ct13 : Value}
    (a13 : PySem.W.nsIn K mainGlobals "_law_node_text" = some (some (.ref f13))) (l13 : K.lookup f13 = some ⟨oc13, od13, .func (PySem.W.fnOf "_law_node_text" "_law_node_text" (defArgs s__law_node_text) (defBody s__law_node_text) (defScope s__law_node_text) .none kV13 dc13 pm13 an13 cd13 ct13), sl13⟩) (c13 : PySem.W.codeIn K cd13 "_law_node_text" = true) (k13 : PySem.W.keepIn K (.ref f13) = true)
    {f14 : Addr} {od14 an14 : Option Addr} {sl14 : Array (Option Value)} {oc14 kV14 dc14 pm14 cd14 ct14 : Value}
    (a14 : PySem.W.nsIn K mainGlobals "_law_leaf_told" = some (some (.ref f14))) (l14 : K.lookup f14 = some ⟨oc14, od14, .func (PySem.W.fnOf "_law_leaf_told" "_law_leaf_told" (defArgs s__law_leaf_told) (defBody s__law_leaf_told) (defScope s__law_leaf_told) .none kV14 dc14 pm14 an14 cd14 ct14), sl14⟩) (c14 : PySem.W.codeIn K cd14 "_law_leaf_told" = true) (k14 : PySem.W.keepIn K (.ref f14) = true)
    {f15 : Addr} {od15 an15 : Option Addr} {sl15 : Array (Option Value)} {oc15 kV15 dc15 pm15 cd15 ct15 : Value}
    (a15 : PySem.W.nsIn K mainGlobals "_law_node_told" = some (some (.ref f15))) (l15 : K.lookup f15 = some ⟨oc15, od15, .func (PySem.W.fnOf "_law_node_told" "_law_node_told" (defArgs s__law_node_told) (defBody s__law_node_told) (defScope s__law_node_told) .none kV15 dc15 pm15 an15 cd15 ct15), sl15⟩) (c15 : PySem.W.codeIn K cd15 "_law_node_told" = true) (k15 : PySem.W.keepIn K (.ref f15) = true)
    {f16 : Addr} {od16 an16 : Option Addr} {sl16 : Array (Option Value)} {oc16 kV16 dc16 pm16 cd16 ct16 : Value}
    (a16 : PySem.W.nsIn K mainGlobals "_law_node" = some (some (.ref f16))) (l16 : K.lookup f16 = some ⟨oc16, od16, .func (PySem.W.fnOf "_law_node" "_law_node" (defArgs s__law_node) (defBody s__law_node) (defScope s__law_node) .none kV16 dc16 pm16 an16 cd16 ct16), sl16⟩) (c16 : PySem.W.codeIn K cd16 "_law_node" = true) (k16 : PySem.W.keepIn K (.ref f16) = true)
    {f17 : Addr} {od17 an17 : Option Addr} {sl17 : Array (Option Value)} {oc17 kV17 dc17 pm17 cd17 ct17 : Value}
    (a17 : PySem.W.nsIn K mainGlobals "_law_near" = some (some (.ref f17))) (l17 : K.lookup f17 = some ⟨oc17, od17, .func (PySem.W.fnOf "_law_near" "_law_near" (defArgs s__law_near) (defBody s__law_near) (defScope s__law_near) .none kV17 dc17 pm17 an17 cd17 ct17), sl17⟩) (c17 : PySem.W.codeIn K cd17 "_law_near" = true) (k17 : PySem.W.keepIn K (.ref f17) = true)
    {f18 : Addr} {od18 an18 : Option Addr} {sl18 : Array (Option Value)} {oc18 kV18 dc18 pm18 cd18 ct18 : Value}
    (a18 : PySem.W.nsIn K mainGlobals "_law_put_together" = some (some (.ref f18))) (l18 : K.lookup f18 = some ⟨oc18, od18, .func (PySem.W.fnOf "_law_put_together" "_law_put_together" (defArgs s__law_put_together) (defBody s__law_put_together) (defScope s__law_put_together) .none kV18 dc18 pm18 an18 cd18 ct18), sl18⟩) (c18 : PySem.W.codeIn K cd18 "_law_put_together" = true) (k18 : PySem.W.keepIn K (.ref f18) = true)
    {f19 : Addr} {od19 an19 : Option Addr} {sl19 : Array (Option Value)} {oc19 kV19 dc19 pm19 cd19 ct19 : Value}
    (a19 : PySem.W.nsIn K mainGlobals "_law_full" = some (some (.ref f19))) (l19 : K.lookup f19 = some ⟨oc19, od19, .func (PySem.W.fnOf "_law_full" "_law_full" (defArgs s__law_full) (defBody s__law_full) (defScope s__law_full) .none kV19 dc19 pm19 an19 cd19 ct19), sl19⟩) (c19 : PySem.W.codeIn K cd19 "_law_full" = true) (k19 : PySem.W.keepIn K (.ref f19) = true)
    {f20 : Addr} {od20 an20 : Option Addr} {sl20 : Array (Option Value)} {oc20 kV20 dc20 pm20 cd20 ct20 : Value}
    (a20 : PySem.W.nsIn K mainGlobals "_law_rooms_right" = some (some (.ref f20))) (l20 : K.lookup f20 = some ⟨oc20, od20, .func (PySem.W.fnOf "_law_rooms_right" "_law_rooms_right" (defArgs s__law_rooms_right) (defBody s__law_rooms_right) (defScope s__law_rooms_right) .none kV20 dc20 pm20 an20 cd20 ct20), sl20⟩) (c20 : PySem.W.codeIn K cd20 "_law_rooms_right" = true) (k20 : PySem.W.keepIn K (.ref f20) = true)
    {f21 : Addr} {od21 an21 : Option Addr} {sl21 : Array (Option Value)} {oc21 kV21 dc21 pm21 cd21 ct21 : Value}
    (a21 : PySem.W.nsIn K mainGlobals "law" = some (some (.ref f21))) (l21 : K.lookup f21 = some ⟨oc21, od21, .func (PySem.W.fnOf "law" "law" (defArgs s_law) (defBody s_law) (defScope s_law) .none kV21 dc21 pm21 an21 cd21 ct21), sl21⟩) (c21 : PySem.W.codeIn K cd21 "law" = true) (k21 : PySem.W.keepIn K (.ref f21) = true)
    (z0 : PySem.W.nsIn K mainGlobals "abs" = some none)
    (z1 : PySem.W.nsIn K mainGlobals "bool" = some none)
    (z2 : PySem.W.nsIn K mainGlobals "int" = some none)
    (z3 : PySem.W.nsIn K mainGlobals "isinstance" = some none)
    (z4 : PySem.W.nsIn K mainGlobals "len" = some none)
    (z5 : PySem.W.nsIn K mainGlobals "list" = some none)
    (z6 : PySem.W.nsIn K mainGlobals "max" = some none)
    (z7 : PySem.W.nsIn K mainGlobals "min" = some none)
    (z8 : PySem.W.nsIn K mainGlobals "range" = some none)
    (z9 : PySem.W.nsIn K mainGlobals "str" = some none)
    (z10 : PySem.W.nsIn K mainGlobals "tuple" = some none)
    (z11 : PySem.W.nsIn K mainGlobals "type" = some none) :
    ∃ fd : FuncData, (∀ (s : Shared) (v : Value), BindsTo s fd ⟨[v], []⟩ [("_law_script", v)]) ∧ ∀ base : Heap, K.In base → base.Ns mainGlobals mg → FnOk l.prog w K mg base CX0 8 fa fd ["_law_script"] (spLaw K) := by
  have e := hfa.symm.trans (PySem.W.mg_of X G a21)
  cases e
  have Y := fx_mk X G a0 l0 c0 k0 a1 l1 c1 k1 a2 l2 c2 k2 a3 l3 c3 k3 a4 l4 c4 k4 a5 l5 c5 k5 a6 l6 c6 k6 a7 l7 c7 k7 a8 l8 c8 k8 a9 l9 c9 k9 a10 l10 c10 k10 a11 l11 c11 k11 a12 l12 c12 k12 a13 l13 c13 k13 a14 l14 c14 k14 a15 l15 c15 k15 a16 l16 c16 k16 a17 l17 c17 k17 a18 l18 c18 k18 a19 l19 c19 k19 a20 l20 c20 k20 a21 l21 c21 k21 z0 z1 z2 z3 z4 z5 z6 z7 z8 z9 z10 z11
  exact ⟨PySem.W.fnOf "law" "law" (defArgs s_law) (defBody s_law) (defScope s_law) .none kV21 dc21 pm21 an21 cd21 ct21, fun s v => .of_eq rfl, fun base _ _ => ok_law (fx_mk X G a0 l0 c0 k0 a1 l1 c1 k1 a2 l2 c2 k2 a3 l3 c3 k3 a4 l4 c4 k4 a5 l5 c5 k5 a6 l6 c6 k6 a7 l7 c7 k7 a8 l8 c8 k8 a9 l9 c9 k9 a10 l10 c10 k10 a11 l11 c11 k11 a12 l12 c12 k12 a13 l13 c13 k13 a14 l14 c14 k14 a15 l15 c15 k15 a16 l16 c16 k16 a17 l17 c17 k17 a18 l18 c18 k18 a19 l19 c19 k19 a20 l20 c20 k20 a21 l21 c21 k21 z0 z1 z2 z3 z4 z5 z6 z7 z8 z9 z10 z11)⟩
end My
open PySem PySem.W PyProof.Rows
set_option maxHeartbeats 0 in
theorem PySem.Challenge.cw_heldpasts_k14_texts_of_nodes_holds : PySem.Challenge.rw_heldpasts_k14_texts_of_nodes.Holds := by
  w_on; o_law; k_head; (case hw => w_witness2)
  k_fill
  refine L2.walk_of (l := PySem.Challenge.rw_heldpasts_k14_texts_of_nodes) (n := 63) (k := 8) (x := "_law_script") (CX := fun _ => L2.CX0) (sp := fun w => My.spLaw _) rfl (by decide) rfl ⟨rfl, by decide, by decide⟩ (fun w h Y => PySem.W.kIn_of Y) ?F (fun _ _ a ns hl _ hS => ⟨a, ns, rfl, hS, hl, fun _ => rfl⟩) (fun _ _ _ _ _ h => h)
  case F =>
    intro w mg fa h KX G hmg
    refine' My.all_mk KX G hmg ?a0 ?l0 ?c0 ?k0 ?a1 ?l1 ?c1 ?k1 ?a2 ?l2 ?c2 ?k2 ?a3 ?l3 ?c3 ?k3 ?a4 ?l4 ?c4 ?k4 ?a5 ?l5 ?c5 ?k5 ?a6 ?l6 ?c6 ?k6 ?a7 ?l7 ?c7 ?k7 ?a8 ?l8 ?c8 ?k8 ?a9 ?l9 ?c9 ?k9 ?a10 ?l10 ?c10 ?k10 ?a11 ?l11 ?c11 ?k11 ?a12 ?l12 ?c12 ?k12 ?a13 ?l13 ?c13 ?k13 ?a14 ?l14 ?c14 ?k14 ?a15 ?l15 ?c15 ?k15 ?a16 ?l16 ?c16 ?k16 ?a17 ?l17 ?c17 ?k17 ?a18 ?l18 ?c18 ?k18 ?a19 ?l19 ?c19 ?k19 ?a20 ?l20 ?c20 ?k20 ?a21 ?l21 ?c21 ?k21 ?z0 ?z1 ?z2 ?z3 ?z4 ?z5 ?z6 ?z7 ?z8 ?z9 ?z10 ?z11
    (case a0 => k_is); (case l0 => k_is); (case c0 => k_is); (case k0 => k_is); (case a1 => k_is); (case l1 => k_is); (case c1 => k_is); (case k1 => k_is); (case a2 => k_is); (case l2 => k_is); (case c2 => k_is); (case k2 => k_is); (case a3 => k_is); (case l3 => k_is); (case c3 => k_is); (case k3 => k_is); (case a4 => k_is); (case l4 => k_is); (case c4 => k_is); (case k4 => k_is); (case a5 => k_is); (case l5 => k_is); (case c5 => k_is); (case k5 => k_is); (case a6 => k_is); (case l6 => k_is); (case c6 => k_is); (case k6 => k_is); (case a7 => k_is); (case l7 => k_is); (case c7 => k_is); (case k7 => k_is); (case a8 => k_is); (case l8 => k_is); (case c8 => k_is); (case k8 => k_is); (case a9 => k_is); (case l9 => k_is); (case c9 => k_is); (case k9 => k_is); (case a10 => k_is); (case l10 => k_is); (case c10 => k_is); (case k10 => k_is); (case a11 => k_is); (case l11 => k_is); (case c11 => k_is); (case k11 => k_is); (case a12 => k_is); (case l12 => k_is); (case c12 => k_is); (case k12 => k_is); (case a13 => k_is); (case l13 => k_is); (case c13 => k_is); (case k13 => k_is); (case a14 => k_is); (case l14 => k_is); (case c14 => k_is); (case k14 => k_is); (case a15 => k_is); (case l15 => k_is); (case c15 => k_is); (case k15 => k_is); (case a16 => k_is); (case l16 => k_is); (case c16 => k_is); (case k16 => k_is); (case a17 => k_is); (case l17 => k_is); (case c17 => k_is); (case k17 => k_is); (case a18 => k_is); (case l18 => k_is); (case c18 => k_is); (case k18 => k_is); (case a19 => k_is); (case l19 => k_is); (case c19 => k_is); (case k19 => k_is); (case a20 => k_is); (case l20 => k_is); (case c20 => k_is); (case k20 => k_is); (case a21 => k_is); (case l21 => k_is); (case c21 => k_is); (case k21 => k_is); (case z0 => k_is); (case z1 => k_is); (case z2 => k_is); (case z3 => k_is); (case z4 => k_is); (case z5 => k_is); (case z6 => k_is); (case z7 => k_is); (case z8 => k_is); (case z9 => k_is); (case z10 => k_is); (case z11 => k_is)

