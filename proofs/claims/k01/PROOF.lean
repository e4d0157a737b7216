import PyProof.Rows.All
import Wide.All
import OpenK.AllK
import Wide.FinOn
import HandS.ForMost
import HandS.IsInst
import HandS.Style
import HandS.Codes
import PySem.Challenge.RW_lastkind_k01_names_and_kinds
set_option Elab.async false
set_option linter.all false
set_option maxRecDepth 100000
set_option maxHeartbeats 2000000
/-! Own base: a def by its promise alone, walks of texts in comprehensions, str * int, bags. -/
namespace Lk
open PySem PySem.Spec PyProof.Rows L2

/-- a def of the text that keeps its promise -/
structure Df (P : Program) (w : World) (K : PySem.W.Frag) (mg : Str → Option Value) (base : Heap) (x : Str) (k : Nat) (ps : List Str) (sp : Sp) : Prop where
  ex : ∃ (f : Addr) (fd : FuncData), FnOk P w K mg base CX0 k f fd ps sp ∧ mg x = some (.ref f) ∧ PySem.W.keepIn K (.ref f) = true ∧ Binds K fd ps []

theorem pe_callD {X : Cx} {x : Str} {k : Nat} {ps : List Str} {sp : Sp} {p pos : Pos} {e : Expr} {es : List Expr} {t : TA} (D : Df X.prog X.w X.K X.mg X.base x k ps sp) (hr : Room k X.A) (hg : Gl X x)
    (ha : PA X (e :: es) t) (hdb : (x == ("__debug__" : Str)) = false := by decide) (he : starEach (e :: es) X.env = (false, eval e X.env) :: starEach es X.env := by rfl) (hpl : (backTo pos (starEach es X.env)).any (·.1) = false := by rfl) :
    PE X (.Call (.Name x p) (e :: es) [] pos) (tCall sp [] E0 t) := by
  obtain ⟨f, fd, F, hm, hk, hb⟩ := D.ex
  exact pe_call F hr hg hm hk hb .nil pass0 ha hdb he hpl

/-- a constant of the module -/
theorem pe_globR {X : Cx} {x : Str} {v : V} {pos : Pos} (hg : Gl X x) (hm : ∃ u, X.mg x = some u ∧ RelV v u) (hd : (x == ("__debug__" : Str)) = false := by decide) : PE X (.Name x pos) (tC v) := by
  obtain ⟨u, h, r⟩ := hm
  exact pe_glob hg h r hd

theorem same_upd {H : Hp} {p : Addr} {o : HO} (h : H p = none) : Same H (upd H p o) := fun b x e => by
  rw [upd_ne (ne_of_none e h)]
  exact e

theorem yesT {σ : L2.St} {H : Hp} {A B : Hp → Prop} (h : A H) : tYes σ H (fun b H3 => if b = true then A H3 else B H3) := by
  show if true = true then A H else B H
  exact iteT h
/-- a comprehension over the signs of a text -/
theorem lc_str {x : Str} {g : TG} {tt : TT} {te : TE} {vs : List Nat} {σ : L2.St} {H1 : Hp} {D : Addr} {Qd : Hp → Prop} (Pv : Nat → Hp → Prop) (h0 : Pv 0 (upd H1 D (.lst [])))
    (hs : ∀ i c H, x.cps.toList[i]? = some c → Pv i H → g (.str ⟨#[c]⟩) (wipe σ vs) H fun σ2 H2 => wipe σ2 vs = wipe σ vs ∧ tt σ2 H2 fun b H3 =>
      if b = true then te σ2 H3 fun y H4 => ∃ acc, H4 D = some (.lst acc) ∧ acc.length < sizeLine ∧ Pv (i + 1) (upd H4 D (.lst (acc ++ [y]))) else Pv (i + 1) H3) (hd : ∀ H, Pv x.cps.toList.length H → Qd H) :
    ∃ W : Nat → Nat → Hp → Prop, (∃ m, W 0 m (upd H1 D (.lst []))) ∧ ∀ i m H, W i m H →
      ((Its x).stop i H ∧ Qd H) ∨ ((Its x).go i H ∧ ∃ Nx : Hp → Prop, (∀ H', Nx H' → ∃ m', m' < m ∧ W (i + 1) m' H') ∧ ∀ y H', (Its x).yld i H y H' → g y (wipe σ vs) H' fun σ2 H2 => wipe σ2 vs = wipe σ vs ∧ tt σ2 H2 fun b H3 =>
        if b = true then te σ2 H3 fun y H4 => ∃ acc, H4 D = some (.lst acc) ∧ acc.length < sizeLine ∧ Nx (upd H4 D (.lst (acc ++ [y]))) else Nx H3) := by
  refine ⟨fun i m H => m = x.cps.toList.length - i ∧ i ≤ x.cps.toList.length ∧ Pv i H, ⟨x.cps.toList.length, by simp, Nat.zero_le _, h0⟩, ?_⟩
  rintro i m H ⟨rfl, hi, p⟩
  by_cases hlt : i < x.cps.toList.length
  · refine .inr ⟨by show i < x.cps.size; simpa using hlt, Pv (i + 1), fun H' p' => ⟨x.cps.toList.length - (i + 1), by omega, rfl, hlt, p'⟩, fun y H' z => ?_⟩
    obtain ⟨e, c, hc, e2⟩ := z
    subst e
    subst e2
    exact hs i c _ (by simpa using hc) p
  · have e : i = x.cps.toList.length := by omega
    subst e
    exact .inl ⟨by show x.cps.size ≤ x.cps.toList.length; simp, hd _ p⟩

/-- s * n, n being 0 or 1 -/
theorem op_mulS {X : Cx} : OpR X (binaryOp .Mult) (fun x y H Q => ∃ (z : Str) (n : Int), x = .str z ∧ y = .int n ∧ (n = 0 ∨ n = 1) ∧ Q (.str (if n = 0 then ⟨#[]⟩ else z)) H) := by
  intro pins s σ H x y v u Q I rx ry h
  obtain ⟨z, n, rfl, rfl, hn, q⟩ := h
  obtain ⟨t, rfl⟩ := rx
  obtain ⟨t', rfl⟩ := ry
  refine PySem.SB.mul ⟨?_, ?_, ?_⟩ fun t' k => ?_
  · rcases hn with rfl | rfl <;> decide
  · rcases hn with rfl | rfl
    · intro h; exact absurd (by decide) h
    · intro _ h; simp at h
  · rcases hn with rfl | rfl
    · intro h; exact absurd (by decide) h
    · intro _ h; simp at h
  · rcases hn with rfl | rfl
    · exact ⟨.str _, H, I.tok _, ⟨_, rfl⟩, q⟩
    · exact ⟨.str _, H, I.tok _, ⟨_, rfl⟩, by simpa [Txt.mul] using q⟩

/-- a bag of numbers stands at p -/
def Bag (H : Hp) (p : Addr) : Prop := ∃ g m : Int, H p = some (.lst [.int g, .int m]) ∧ 0 ≤ g
/-- all but the bag at p is as it was, and a bag stands at p -/
def Kept (p : Addr) (H H' : Hp) : Prop := (∀ b o, b ≠ p → H b = some o → H' b = some o) ∧ Bag H' p
theorem Kept.trans {p : Addr} {H H1 H2 : Hp} (a : Kept p H H1) (b : Kept p H1 H2) : Kept p H H2 := ⟨fun c o n h => b.1 c o n (a.1 c o n h), b.2⟩
theorem Kept.refl {p : Addr} {H : Hp} (b : Bag H p) : Kept p H H := ⟨fun _ _ _ h => h, b⟩
theorem Kept.same {p : Addr} {H H1 H2 : Hp} (a : Kept p H H1) (b : Same H1 H2) : Kept p H H2 :=
  ⟨fun c o n h => b c o (a.1 c o n h), let ⟨g, m, h, z⟩ := a.2; ⟨g, m, b _ _ h, z⟩⟩
theorem Kept.seq {K : PySem.W.Frag} {p : Addr} {H H' : Hp} {a : Addr} {xs : List V} (e : Kept p H H') (n : a ≠ p) (h : SqL K H a xs) : SqL K H' a xs := by
  rcases h with (h | ⟨o, h⟩) | h
  · exact .inl (.inl (e.1 _ _ n h))
  · exact .inl (.inr ⟨o, e.1 _ _ n h⟩)
  · exact .inr h
theorem Kept.get {p : Addr} {H H' : Hp} {a : Addr} {o : HO} (e : Kept p H H') (h : H a = some o) (n : a ≠ p) : H' a = some o := e.1 _ _ n h
theorem Same.bag {p : Addr} {H H' : Hp} (e : Same H H') (h : Bag H p) : Bag H' p := let ⟨g, m, h, z⟩ := h; ⟨g, m, e _ _ h, z⟩
theorem Same.tup {K : PySem.W.Frag} {H H' : Hp} {a : Addr} {xs : List V} (e : Same H H') (h : SqT K H a xs) : SqT K H' a xs := by
  rcases h with (h | ⟨o, h⟩) | h
  · exact .inl (.inl (e _ _ h))
  · exact .inl (.inr ⟨o, e _ _ h⟩)
  · exact .inr h

/-! ### the promises of the draws, the same in every law -/
def spBag (K : PySem.W.Frag) : Sp := fun vs H Q _ => ∃ (a : Addr) (ns : List Int) (at_ : Nat), vs = [.ref a, .int at_] ∧ SqL K H a (ns.map V.int) ∧ at_ ≤ 1000 ∧ ns.length ≤ 1000 ∧
  ∀ H' p, Same H H' → H p = none → Bag H' p → Q (.ref p) H'
def spTake : Sp := fun vs H Q _ => ∃ (p : Addr) (n : Int), vs = [.ref p, .int n] ∧ 0 < n ∧ n < 1073741824 ∧ Bag H p ∧
  ∀ (H' : Hp) (r : Int), 0 ≤ r → r < n → Kept p H H' → Q (.int r) H'
end Lk

set_option maxRecDepth 100000
set_option maxHeartbeats 2000000
/-! Own: names and kinds as functions of a text's codes; things of known type. -/
namespace Lk
open PySem PySem.Spec PyProof.Rows L2

def lowS : Str := "abcdefghijklmnopqrstuvwxyz"
def digS : Str := "0123456789"
def sizS : Str := "1234"
def alnS : Str := "abcdefghijklmnopqrstuvwxyz0123456789"
def isLow (c : Nat) : Bool := decide (c ∈ lowS.cps.toList)
def isDig (c : Nat) : Bool := decide (c ∈ digS.cps.toList)
def isSiz (c : Nat) : Bool := decide (c ∈ sizS.cps.toList)
def isAln (c : Nat) : Bool := decide (c ∈ alnS.cps.toList)
theorem aln_eq : alnS.cps.toList = lowS.cps.toList ++ digS.cps.toList := by decide +kernel
theorem alnS_eq : lowS ++ digS = alnS := by decide +kernel
theorem isAln_or (c : Nat) : isAln c = (isLow c || isDig c) := by
  unfold isAln isLow isDig
  rw [aln_eq]
  simp [List.mem_append]
theorem low_not_dig (c : Nat) (h : isLow c = true) : isDig c = false := by
  have q : ∀ c ∈ lowS.cps.toList, c ∉ digS.cps.toList := by decide +kernel
  unfold isDig
  unfold isLow at h
  simpa using q c (of_decide_eq_true h)
/-- a text is a name -/
def nameB (cs : List Nat) : Bool := decide (1 ≤ cs.length) && (decide (cs.length ≤ 8) && (isLow (cs.headD 0) && cs.all isAln))
def kindB (cs : List Nat) : Bool := decide (2 ≤ cs.length) && (decide (cs.length ≤ 7) && (isSiz (cs.getLastD 0) && cs.dropLast.all isLow))
def nameV : V → Bool
  | .str z => nameB z.cps.toList
  | _ => false
def kindV : V → Bool
  | .str z => kindB z.cps.toList
  | _ => false
/-- a text that may be asked: not long, no odd signs -/
def TxtOk (z : Str) : Prop := z.length ≤ 1000 ∧ ∀ c ∈ z.cps.toList, c < 128
def isStrV : V → Bool
  | .str _ => true
  | _ => false
def isIntV : V → Bool
  | .int _ => true
  | .bl _ => true
  | _ => false
def isBlV : V → Bool
  | .bl _ => true
  | _ => false
/-- a value of known built-in type -/
def Th (K : PySem.W.Frag) (H : Hp) (x : V) : Prop := ∃ n : String, TyX K H x (.type n) ∧ kitB n "str" = some (isStrV x) ∧ kitB n "int" = some (isIntV x) ∧ kitB n "bool" = some (isBlV x) ∧ ∀ z, x = .str z → TxtOk z
theorem th_non {K : PySem.W.Frag} {H : Hp} : Th K H .non := ⟨_, .base .non, by decide +kernel, by decide +kernel, by decide +kernel, fun _ e => nomatch e⟩
theorem th_bl {K : PySem.W.Frag} {H : Hp} (b : Bool) : Th K H (.bl b) := ⟨_, .base (.bl b), by show _ = some false; decide +kernel, by show _ = some true; decide +kernel, by show _ = some true; decide +kernel, fun _ e => nomatch e⟩
theorem th_int {K : PySem.W.Frag} {H : Hp} (i : Int) : Th K H (.int i) := ⟨_, .base (.int i), by show _ = some false; decide +kernel, by show _ = some true; decide +kernel, by show _ = some false; decide +kernel, fun _ e => nomatch e⟩
theorem th_str {K : PySem.W.Frag} {H : Hp} {z : Str} (h : TxtOk z) : Th K H (.str z) := ⟨_, .base (.str z), by show _ = some true; decide +kernel, by show _ = some false; decide +kernel, by show _ = some false; decide +kernel, fun _ e => by cases e; exact h⟩
theorem th_tup {K : PySem.W.Frag} {H : Hp} {a : Addr} {xs : List V} (h : H a = some (.tup xs)) : Th K H (.ref a) := ⟨_, .base (.tup h), by show _ = some false; decide +kernel, by show _ = some false; decide +kernel, by show _ = some false; decide +kernel, fun _ e => nomatch e⟩
theorem th_lst {K : PySem.W.Frag} {H : Hp} {a : Addr} {xs : List V} (h : H a = some (.lst xs)) : Th K H (.ref a) := ⟨_, .base (.lst h), by show _ = some false; decide +kernel, by show _ = some false; decide +kernel, by show _ = some false; decide +kernel, fun _ e => nomatch e⟩

theorem q_eq {Q : VK} {a b : V} {H : Hp} (e : a = b) (h : Q b H) : Q a H := by rw [e]; exact h

theorem headD_of {cs : List Nat} {c : Nat} (h : cs[0]? = some c) : cs.headD 0 = c := by
  cases cs with
  | nil => simp at h
  | cons a r => simpa using h
theorem atI_zero {α : Type} {xs : List α} {v : α} (h : xs[0]? = some v) : atI xs (0 : Int) = some v := atI_nat (j := 0) h
theorem atI_neg1 {α : Type} {xs : List α} {v : α} (h : xs.getLast? = some v) : atI xs (-1 : Int) = some v := by
  have h0 : xs ≠ [] := by intro e; rw [e] at h; simp at h
  have e := List.dropLast_concat_getLast h0
  have hv : xs.getLast h0 = v := by rw [List.getLast?_eq_some_getLast h0] at h; exact Option.some.inj h
  rw [hv] at e
  rw [← e]
  exact atI_last _ _
theorem getLastD_of {cs : List Nat} {c : Nat} (h : cs.getLast? = some c) : cs.getLastD 0 = c := by
  rw [List.getLastD_eq_getLast?, h]
  rfl
theorem nth_of {α : Type} {xs : List α} (h : 1 ≤ xs.length) : ∃ c, xs[0]? = some c := ⟨xs[0], List.getElem?_eq_getElem (by omega)⟩
theorem last_of {α : Type} {xs : List α} (h : 1 ≤ xs.length) : ∃ c, xs.getLast? = some c := by
  have h0 : xs ≠ [] := by intro e; rw [e] at h; simp at h
  exact ⟨_, List.getLast?_eq_some_getLast h0⟩
theorem len_cps (z : Str) : z.length = z.cps.toList.length := by
  unfold Str.length
  simp
theorem cut_front (z : Str) : (cutS z none (some (-1 : Int))).cps.toList = z.cps.toList.dropLast := by
  unfold cutS
  have h1 : HT.sIx z.length 0 none = 0 := rfl
  have h2 : HT.sIx z.length z.length (some (-1 : Int)) = z.length - 1 := by
    show (if (-1 : Int) < 0 then ((-1 : Int) + (z.length : Int)).toNat else min (-1 : Int).toNat z.length) = _
    rw [if_pos (by decide)]
    omega
  rw [h1, h2]
  show (List.take (z.length - 1 - 0) (List.drop 0 z.cps.toList)).toArray.toList = _
  rw [List.dropLast_eq_take, len_cps]
  simp
/-- the law's own test of a name -/
theorem nameB_ok {cs : List Nat} (h1 : 1 ≤ cs.length) (h2 : cs.length ≤ 8) (hd : isDig (cs.headD 0) = false) : nameB cs = (cs.filter fun c => !isAln c).isEmpty := by
  unfold nameB
  rw [decide_eq_true h1, decide_eq_true h2]
  cases cs with
  | nil => simp at h1
  | cons c r =>
    have hd : isDig c = false := hd
    show (true && (true && (isLow c && (isAln c && r.all isAln)))) = _
    have e : isAln c = isLow c := by rw [isAln_or, hd, Bool.or_false]
    have f : ∀ l : List Nat, l.all isAln = (l.filter fun c => !isAln c).isEmpty := by
      intro l
      induction l with
      | nil => rfl
      | cons a l ih =>
        rw [List.all_cons, List.filter_cons, ih]
        cases isAln a <;> simp
    rw [← f, List.all_cons, e]
    cases isLow c <;> simp
theorem nameB_dig {cs : List Nat} (hd : isDig (cs.headD 0) = true) : nameB cs = false := by
  unfold nameB
  cases h : isLow (cs.headD 0) with
  | true =>
    have := low_not_dig _ h
    rw [hd] at this
    cases this
  | false => simp
theorem nameB_short {cs : List Nat} (h : ¬ 1 ≤ cs.length) : nameB cs = false := by
  unfold nameB
  rw [decide_eq_false h]
  rfl
theorem nameB_long {cs : List Nat} (h : ¬ cs.length ≤ 8) : nameB cs = false := by
  unfold nameB
  rw [decide_eq_false h]
  simp
theorem kindB_short {cs : List Nat} (h : ¬ 2 ≤ cs.length) : kindB cs = false := by
  unfold kindB
  rw [decide_eq_false h]
  rfl
theorem kindB_long {cs : List Nat} (h : ¬ cs.length ≤ 7) : kindB cs = false := by
  unfold kindB
  rw [decide_eq_false h]
  simp
theorem kindB_siz {cs : List Nat} (hd : isSiz (cs.getLastD 0) = false) : kindB cs = false := by
  unfold kindB
  rw [hd]
  simp
theorem kindB_ok {cs : List Nat} (h1 : 2 ≤ cs.length) (h2 : cs.length ≤ 7) (hd : isSiz (cs.getLastD 0) = true) : kindB cs = (cs.dropLast.filter fun c => !isLow c).isEmpty := by
  unfold kindB
  rw [decide_eq_true h1, decide_eq_true h2, hd]
  have f : ∀ l : List Nat, l.all isLow = (l.filter fun c => !isLow c).isEmpty := by
    intro l
    induction l with
    | nil => rfl
    | cons a l ih =>
      rw [List.all_cons, List.filter_cons, ih]
      cases isLow a <;> simp
  rw [← f]
  rfl
theorem kindB_last {cs : List Nat} (h : kindB cs = true) : ∃ c, cs.getLast? = some c ∧ isSiz c = true := by
  unfold kindB at h
  simp only [Bool.and_eq_true, decide_eq_true_eq] at h
  obtain ⟨h1, h2, h3, h4⟩ := h
  obtain ⟨c, hc⟩ := last_of (xs := cs) (by omega)
  exact ⟨c, hc, by rw [getLastD_of hc] at h3; exact h3⟩
theorem siz_cases {c : Nat} (h : isSiz c = true) : c = 49 ∨ c = 50 ∨ c = 51 ∨ c = 52 := by
  have q : ∀ c ∈ sizS.cps.toList, c = 49 ∨ c = 50 ∨ c = 51 ∨ c = 52 := by decide +kernel
  exact q c (of_decide_eq_true h)
theorem siz_text {c : Nat} (h : isSiz c = true) : PySem.intText? ⟨#[c]⟩ = some ((c : Int) - 48) := by
  rcases siz_cases h with rfl | rfl | rfl | rfl <;> decide +kernel

/-! ### lists of texts as data -/
def strD (cs : List Nat) : List PyData := cs.map fun c => .str ⟨#[c]⟩
theorem dpAll_signs {K : PySem.W.Frag} {H : Hp} : ∀ cs : List Nat, DpAll K H (cs.map fun c => V.str ⟨#[c]⟩) (strD cs)
  | [] => .nil
  | c :: r => .cons (.str _) (dpAll_signs r)
theorem canLay_signs : ∀ {cs : List Nat}, (∀ c ∈ cs, c < 128) → PyData.canLayAll0 (strD cs) = true
  | [], _ => rfl
  | c :: r, h => by
    show (PyData.strOk ⟨#[c]⟩ && PyData.canLayAll0 (strD r)) = true
    rw [canLay_signs fun d hd => h d (List.mem_cons_of_mem _ hd), Bool.and_true]
    have := h c (List.mem_cons_self ..)
    unfold PyData.strOk
    simp
    omega
theorem depth_signs : ∀ cs : List Nat, PyData.depthAll (strD cs) = 0
  | [] => rfl
  | c :: r => by
    show max 0 (PyData.depthAll (strD r)) = 0
    rw [depth_signs r]
    rfl
theorem shaped_signs {cs : List Nat} (h : ∀ c ∈ cs, c < 128) : SeqAt.shaped (.list (strD cs)) = true := by
  unfold SeqAt.shaped
  have e : (PyData.list (strD cs)).canLay0 = true := canLay_signs h
  rw [e]
  have d : (PyData.list (strD cs)).depth = 1 := by
    show PyData.depthAll (strD cs) + 1 = 1
    rw [depth_signs]
  rw [d]
  rfl
theorem eqv_signs (cs : List Nat) : PyData.eqv (.list (strD cs)) (.list []) = cs.isEmpty := by
  cases cs <;> rfl

/-! ### promises -/
def spOf (K : PySem.W.Frag) (f : V → Bool) : Sp := fun vs H Q _ => ∃ x, vs = [x] ∧ Th K H x ∧ ∀ H', Same H H' → Q (.bl (f x)) H'
def spSize : Sp := fun vs H Q _ => ∃ (z : Str) (c : Nat), vs = [.str z] ∧ TxtOk z ∧ z.cps.toList.getLast? = some c ∧ isSiz c = true ∧ Q (.int ((c : Int) - 48)) H
def wholeV (x : V) : Bool := isIntV x && !isBlV x
end Lk
namespace Lk
open PySem PySem.Spec PyProof.Rows L2
def everyS : Str := ("abcdefghijklmnopqrstuvwxyz0123456789 !\"#$&'()*+,-./:;<=>?@" : Str) ++ ("ABCDEFGHIJKLMNOPQRSTUVWXYZ[\\]^_`{|}~\n" : Str)
theorem every_len : everyS.cps.toList.length = 95 := by decide +kernel
theorem every_len' : everyS.length = 95 := by rw [len_cps, every_len]
theorem every_item {i : Nat} (h : i < 95) : ∃ c, everyS.cps.toList[i]? = some c ∧ c < 128 := by
  have q : ∀ c ∈ everyS.cps.toList, c < 128 := by decide +kernel
  have hl : i < everyS.cps.toList.length := by rw [every_len]; exact h
  exact ⟨_, List.getElem?_eq_getElem hl, q _ (List.getElem_mem hl)⟩
theorem every_at {i : Int} (h0 : 0 ≤ i) (h : i < 95) : ∃ c, atI everyS.cps.toList i = some c ∧ c < 128 := by
  obtain ⟨c, e, hc⟩ := every_item (i := i.toNat) (by omega)
  refine ⟨c, ?_, hc⟩
  have := atI_nat e
  rwa [Int.toNat_of_nonneg h0] at this
/-- a text of at most n plain signs -/
def TxtN (n : Nat) (z : Str) : Prop := z.length ≤ n ∧ ∀ c ∈ z.cps.toList, c < 128
theorem TxtN.ok {n : Nat} {z : Str} (h : TxtN n z) (hn : n ≤ 1000) : TxtOk z := ⟨Nat.le_trans h.1 hn, h.2⟩
theorem TxtN.mono {n m : Nat} {z : Str} (h : TxtN n z) (hn : n ≤ m) : TxtN m z := ⟨Nat.le_trans h.1 hn, h.2⟩
theorem TxtN.cut {n : Nat} {z : Str} (h : TxtN n z) (lo hi : Option Int) : TxtN n (cutS z lo hi) := by
  have e : (cutS z lo hi).cps.toList = (z.cps.toList.drop (HT.sIx z.length 0 lo)).take (HT.sIx z.length z.length hi - HT.sIx z.length 0 lo) := by
    unfold cutS
    simp
  refine ⟨?_, fun c hc => ?_⟩
  · rw [len_cps, e, List.length_take, List.length_drop]
    have := h.1
    rw [len_cps] at this
    omega
  · rw [e] at hc
    exact h.2 c (List.mem_of_mem_drop (List.mem_of_mem_take hc))
theorem app_cps (a b : Str) : (a ++ b).cps.toList = a.cps.toList ++ b.cps.toList := by
  show (a.cps ++ b.cps).toList = _
  simp
theorem TxtN.app {n m : Nat} {a b : Str} (h : TxtN n a) (k : TxtN m b) : TxtN (n + m) (a ++ b) := by
  refine ⟨?_, fun c hc => ?_⟩
  · have h1 := h.1
    have h2 := k.1
    rw [len_cps] at h1 h2 ⊢
    rw [app_cps, List.length_append]
    omega
  · rw [app_cps] at hc
    rcases List.mem_append.mp hc with q | q
    · exact h.2 c q
    · exact k.2 c q
theorem TxtN.one {c : Nat} (h : c < 128) : TxtN 1 ⟨#[c]⟩ := ⟨Nat.le_refl 1, fun d hd => by
  have : d = c := by simpa using hd
  rw [this]; exact h⟩
theorem TxtN.none {n : Nat} : TxtN n ⟨#[]⟩ := ⟨Nat.zero_le _, fun d hd => by simp at hd⟩
theorem join_signs (cs : List Nat) : (Txt.join Str.empty (cs.map fun c => (⟨#[c]⟩ : Str))).cps.toList = cs := by
  show (Builtin.Str.glued Str.empty (cs.map fun c => (⟨#[c]⟩ : Str))).cps.toList = cs
  unfold Builtin.Str.glued
  cases cs with
  | nil => rfl
  | cons c r =>
    show (List.foldl (fun (acc : Array Nat) (p : Str) => acc ++ Str.empty.cps ++ p.cps) #[c] (r.map fun c => (⟨#[c]⟩ : Str))).toList = c :: r
    have : ∀ (l : List Nat) (acc : Array Nat), (List.foldl (fun (acc : Array Nat) (p : Str) => acc ++ Str.empty.cps ++ p.cps) acc (l.map fun c => (⟨#[c]⟩ : Str))).toList = acc.toList ++ l := by
      intro l
      induction l with
      | nil => intro acc; simp
      | cons a l ih =>
        intro acc
        rw [List.map_cons, List.foldl_cons, ih]
        show (acc ++ #[] ++ #[a]).toList ++ l = acc.toList ++ a :: l
        simp
    rw [this]
    simp
theorem join_ok {n : Nat} {cs : List Nat} (h : cs.length ≤ n) (hc : ∀ c ∈ cs, c < 128) : TxtN n (Txt.join Str.empty (cs.map fun c => (⟨#[c]⟩ : Str))) := by
  refine ⟨?_, ?_⟩
  · rw [len_cps, join_signs]; exact h
  · rw [join_signs]; exact hc
theorem sum_signs : ∀ cs : List Nat, ((cs.map fun c => (⟨#[c]⟩ : Str)).map (·.length)).sum = cs.length
  | [] => rfl
  | c :: r => by
    show 1 + ((r.map fun c => (⟨#[c]⟩ : Str)).map (·.length)).sum = r.length + 1
    rw [sum_signs r]
    omega
theorem Kept.upd {p q : Addr} {H H' : Hp} {o : HO} (a : Kept p H H') (h : H' q = none) : Kept p H (upd H' q o) := a.same (same_upd h)
theorem Bag.ne {p q : Addr} {H : Hp} (b : Bag H p) (h : H q = none) : p ≠ q := by
  obtain ⟨_, _, e, _⟩ := b
  exact ne_of_none e h
/-- a new thing of ours changed: the rest as before -/
theorem Kept.upd2 {p q : Addr} {H H' : Hp} {o : HO} (a : Kept p H H') (h : H q = none) (n : p ≠ q) : Kept p H (L2.upd H' q o) := by
  refine ⟨fun b u nb e => ?_, ?_⟩
  · rw [upd_ne (ne_of_none e h)]
    exact a.1 b u nb e
  · obtain ⟨g, m, e, z⟩ := a.2
    exact ⟨g, m, by rw [upd_ne n]; exact e, z⟩
def spStr : Sp := fun vs H Q _ => ∃ p, vs = [.ref p] ∧ Bag H p ∧ ∀ H' z, Kept p H H' → TxtOk z → Q (.str z) H'
end Lk
namespace Lk
open PySem PySem.Spec PyProof.Rows L2
theorem TyX.same {K : PySem.W.Frag} {H H' : Hp} {x : V} {t : Value} (h : TyX K H x t) (s : ∀ b o, x = .ref b → H b = some o → H' b = some o) : TyX K H' x t := by
  cases h with
  | base b =>
    refine .base ?_
    cases b with
    | non => exact .non
    | bl y => exact .bl y
    | int i => exact .int i
    | str y => exact .str y
    | flt y => exact .flt y
    | lst e => exact .lst (s _ _ rfl e)
    | frz e => exact .frz (s _ _ rfl e)
    | tup e => exact .tup (s _ _ rfl e)
    | dK e => exact .dK (s _ _ rfl e)
    | dT e => exact .dT (s _ _ rfl e)
    | ins e a b c d f => exact .ins (s _ _ rfl e) a b c d f
  | byt y => exact .byt y
  | set e => exact .set (s _ _ rfl e)
  | kList e c => exact .kList e c
  | kTuple e c => exact .kTuple e c
  | kDict e c => exact .kDict e c
  | fTuple e => exact .fTuple (s _ _ rfl e)
  | fDict e => exact .fDict (s _ _ rfl e)
theorem Th.same {K : PySem.W.Frag} {H H' : Hp} {x : V} (h : Th K H x) (s : Same H H') : Th K H' x := by
  obtain ⟨n, t, r⟩ := h
  exact ⟨n, TyX.same t fun b o _ e => s b o e, r⟩
theorem Kept.seq0 {K : PySem.W.Frag} {p a : Addr} {H0 H1 H2 : Hp} {xs : List V} (h : SqL K H0 a xs) (hp : H0 p = none) (s : Same H0 H1) (k : Kept p H1 H2) : SqL K H2 a xs := by
  rcases h with (h | ⟨o, h⟩) | h
  · exact .inl (.inl (k.1 _ _ (ne_of_none h hp) (s _ _ h)))
  · exact .inl (.inr ⟨o, k.1 _ _ (ne_of_none h hp) (s _ _ h)⟩)
  · exact .inr h
end Lk

set_option maxRecDepth 100000
set_option maxHeartbeats 4000000
namespace Toy
open PySem L2 Lk
def top (i : Nat) : Stmt := PySem.Challenge.pw_lastkind_k01_names_and_kinds.main.body.getD i (.Pass ⟨0, 0, 0, 0⟩)
abbrev s_is_name : Stmt := top 4
theorem sc_is_name : FnScope ["thing", "sign"] ["thing"] (defScope s_is_name) := ⟨rfl, rfl, rfl, by decide +kernel, rfl, by decide +kernel, by decide +kernel⟩
abbrev s_is_kind : Stmt := top 5
theorem sc_is_kind : FnScope ["thing", "sign"] ["thing"] (defScope s_is_kind) := ⟨rfl, rfl, rfl, by decide +kernel, rfl, by decide +kernel, by decide +kernel⟩
abbrev s_size_of : Stmt := top 6
theorem sc_size_of : FnScope ["kind"] ["kind"] (defScope s_size_of) := ⟨rfl, rfl, rfl, by decide +kernel, rfl, by decide +kernel, by decide +kernel⟩
abbrev s_law_bag : Stmt := top 8
theorem sc_law_bag : FnScope ["_law_script", "_law_at", "_law_cell", "_law_great", "_law_mixed", "_law_one"] ["_law_script", "_law_at"] (defScope s_law_bag) := ⟨rfl, rfl, rfl, by decide +kernel, rfl, by decide +kernel, by decide +kernel⟩
abbrev s_law_take : Stmt := top 9
theorem sc_law_take : FnScope ["_law_bag_here", "_law_many", "_law_digit"] ["_law_bag_here", "_law_many"] (defScope s_law_take) := ⟨rfl, rfl, rfl, by decide +kernel, rfl, by decide +kernel, by decide +kernel⟩
abbrev s_law_name_ok : Stmt := top 10
theorem sc_law_name_ok : FnScope ["_law_thing", "_law_sign"] ["_law_thing"] (defScope s_law_name_ok) := ⟨rfl, rfl, rfl, by decide +kernel, rfl, by decide +kernel, by decide +kernel⟩
abbrev s_law_kind_ok : Stmt := top 11
theorem sc_law_kind_ok : FnScope ["_law_thing", "_law_sign"] ["_law_thing"] (defScope s_law_kind_ok) := ⟨rfl, rfl, rfl, by decide +kernel, rfl, by decide +kernel, by decide +kernel⟩
abbrev s_law_whole : Stmt := top 12
theorem sc_law_whole : FnScope ["_law_thing"] ["_law_thing"] (defScope s_law_whole) := ⟨rfl, rfl, rfl, by decide +kernel, rfl, by decide +kernel, by decide +kernel⟩
abbrev s_law_string : Stmt := top 13
theorem sc_law_string : FnScope ["_law_bag_here", "_law_every", "_law_way", "_law_size", "_law_text", "_law_at", "_law_more", "_law_sign", "_law_k"] ["_law_bag_here"] (defScope s_law_string) := ⟨rfl, rfl, rfl, by decide +kernel, rfl, by decide +kernel, by decide +kernel⟩
abbrev s_law : Stmt := top 14
theorem sc_law : FnScope ["_law_script", "_law_k", "_law_bag_here", "_law_odd", "_law_turn", "_law_thing", "_law_told", "_law_due", "_law_one"] ["_law_script"] (defScope s_law) := ⟨rfl, rfl, rfl, by decide +kernel, rfl, by decide +kernel, by decide +kernel⟩
structure Txt (K : PySem.W.Frag) (mg : Str → Option Value) : Prop where
  b_abs : mg "abs" = none
  b_all : mg "all" = none
  b_bool : mg "bool" = none
  b_int : mg "int" = none
  b_isinstance : mg "isinstance" = none
  b_len : mg "len" = none
  b_max : mg "max" = none
  b_min : mg "min" = none
  b_range : mg "range" = none
  b_str : mg "str" = none
  c_DIGITS : ∃ u, mg "DIGITS" = some u ∧ RelV (.str "0123456789") u
  c_LETTERS : ∃ u, mg "LETTERS" = some u ∧ RelV (.str "abcdefghijklmnopqrstuvwxyz") u
  c_SIZES : ∃ u, mg "SIZES" = some u ∧ RelV (.str "1234") u

abbrev sp_law_take (_ : PySem.W.Frag) : Sp := spTake
abbrev sp_law_bag (K : PySem.W.Frag) : Sp := spBag K
abbrev sp_is_name (K : PySem.W.Frag) : Sp := spOf K nameV
abbrev sp_law_name_ok (K : PySem.W.Frag) : Sp := spOf K nameV
abbrev sp_is_kind (K : PySem.W.Frag) : Sp := spOf K kindV
abbrev sp_law_kind_ok (K : PySem.W.Frag) : Sp := spOf K kindV
abbrev sp_law_whole (K : PySem.W.Frag) : Sp := spOf K wholeV
abbrev sp_law_string (_ : PySem.W.Frag) : Sp := spStr
abbrev sp_size_of (_ : PySem.W.Frag) : Sp := spSize
def oddVs (t1 l1 t2 : Addr) : List V := [.non, .bl true, .int 7, .int (-1), .ref t1, .ref l1, .str "", .str "int4", .str "p", .ref t2, .str "int5", .str "int0", .str "abcdefg1", .str "abcdef1", .str "1"]
def Odd (p O : Addr) (H : Hp) : Prop := ∃ (t1 l1 t2 : Addr) (x1 x2 x3 : List V), (O ≠ p ∧ t1 ≠ p ∧ l1 ≠ p ∧ t2 ≠ p) ∧ H O = some (.lst (oddVs t1 l1 t2)) ∧ H t1 = some (.tup x1) ∧ H l1 = some (.lst x2) ∧ H t2 = some (.tup x3)
theorem Odd.kept {p O : Addr} {H H' : Hp} (h : Odd p O H) (k : Kept p H H') : Odd p O H' := by
  obtain ⟨t1, l1, t2, x1, x2, x3, ⟨n0, n1, n2, n3⟩, h0, h1, h2, h3⟩ := h
  exact ⟨t1, l1, t2, x1, x2, x3, ⟨n0, n1, n2, n3⟩, k.1 _ _ n0 h0, k.1 _ _ n1 h1, k.1 _ _ n2 h2, k.1 _ _ n3 h3⟩
theorem txt_ok {z : Str} (h1 : decide (z.length ≤ 1000) = true) (h2 : z.cps.toList.all (fun c => decide (c < 128)) = true) : TxtOk z := ⟨of_decide_eq_true h1, fun c h => of_decide_eq_true (List.all_eq_true.mp h2 c h)⟩
theorem odd_th {K : PySem.W.Frag} {p O : Addr} {H : Hp} (h : Odd p O H) {r : Int} (r0 : 0 ≤ r) (r1 : r < 15) : ∃ xs v, H O = some (.lst xs) ∧ atI xs r = some v ∧ Th K H v := by
  obtain ⟨t1, l1, t2, x1, x2, x3, _, h0, h1, h2, h3⟩ := h
  refine ⟨_, ((oddVs t1 l1 t2)[r.toNat]?).getD .non, h0, ?_, ?_⟩
  · have hl : r.toNat < (oddVs t1 l1 t2).length := by show r.toNat < 15; omega
    have := atI_nat (List.getElem?_eq_getElem hl)
    rw [Int.toNat_of_nonneg r0] at this
    rw [this, List.getElem?_eq_getElem hl]
    rfl
  · have hr : r.toNat = 0 ∨ r.toNat = 1 ∨ r.toNat = 2 ∨ r.toNat = 3 ∨ r.toNat = 4 ∨ r.toNat = 5 ∨ r.toNat = 6 ∨ r.toNat = 7 ∨ r.toNat = 8 ∨ r.toNat = 9 ∨ r.toNat = 10 ∨ r.toNat = 11 ∨ r.toNat = 12 ∨ r.toNat = 13 ∨ r.toNat = 14 := by omega
    rcases hr with e | e | e | e | e | e | e | e | e | e | e | e | e | e | e <;> rw [e]
    · exact th_non
    · exact th_bl _
    · exact th_int _
    · exact th_int _
    · exact th_tup h1
    · exact th_lst h2
    · exact th_str (txt_ok (by decide +kernel) (by decide +kernel))
    · exact th_str (txt_ok (by decide +kernel) (by decide +kernel))
    · exact th_str (txt_ok (by decide +kernel) (by decide +kernel))
    · exact th_tup h3
    · exact th_str (txt_ok (by decide +kernel) (by decide +kernel))
    · exact th_str (txt_ok (by decide +kernel) (by decide +kernel))
    · exact th_str (txt_ok (by decide +kernel) (by decide +kernel))
    · exact th_str (txt_ok (by decide +kernel) (by decide +kernel))
    · exact th_str (txt_ok (by decide +kernel) (by decide +kernel))
def sp_law (K : PySem.W.Frag) : Sp := fun vs H Q _ => ∃ (a : Addr) (ns : List Int), vs = [.ref a] ∧ SqL K H a (ns.map V.int) ∧ ns.length ≤ 63 ∧ ∀ H', Q (.bl true) H'
section
variable {P : Program} {w : World} {K : PySem.W.Frag} {mg : Str → Option Value} {base : Heap}
theorem ok_law_take {f : Addr} {fd : FuncData} (F : Fun K "_law_take" "_law_take" s_law_take f fd) (T : Txt K mg) : FnOk P w K mg base CX0 1 f fd ["_law_bag_here", "_law_many"] (sp_law_take K) := by
  refine F.ok sc_law_take (fun vs H Q E h => ?_) (fun cdv A outer s H vs Q E hr h => ?_)
  · obtain ⟨_, _, rfl, _⟩ := h
    rfl
  · obtain ⟨p, n, rfl, hn, hn2, ⟨g, m, hp, hg⟩, k⟩ := h
    refine ⟨_, pss_cons (ps_if (pt_cmpR op_gt (pe_ix (r := rIxL K) ix_list (pv 0) (pe_int) (fun _ _ => rfl)) (pe_int) (nomark _))
      (pss_cons (ps_set (i := 2) sc_law_take.nd rfl (Or.inl rfl) (pe_op op_mod (pe_ix (r := rIxL K) ix_list (pv 0) (pe_int) (fun _ _ => rfl)) (pv 1)))
      (pss_cons (ps_asg (pe_op op_fdiv (pe_ix (r := rIxL K) ix_list (pv 0) (pe_int) (fun _ _ => rfl)) (pv 1)) (pg_sub (pv 0) (pe_int) set_list))
      (pss_one (ps_ret (pv 2)))))
      (pss_nil))
      (pss_cons (ps_asg (pe_op op_mod (pe_callTy call_int1 (by rfl) T.b_int (by decide +kernel) (pa_cons (pe_op op_add (pe_op op_mul (pe_ix (r := rIxL K) ix_list (pv 0) (pe_int) (fun _ _ => rfl)) (pe_int)) (pe_int)) pa_nil)) (pe_int)) (pg_sub (pv 0) (pe_int) set_list))
      (pss_one (ps_ret (pe_op op_mod (pe_op op_mod (pe_callTy call_int1 (by rfl) T.b_int (by decide +kernel) (pa_cons (pe_op op_pow (pe_ix (r := rIxL K) ix_list (pv 0) (pe_int) (fun _ _ => rfl)) (pe_int)) pa_nil)) (pe_int)) (pv 1))))), ?_⟩
    refine ⟨_, rfl, p, _, _, _, rfl, rfl, SqL.of hp, rfl, _, _, rfl, rfl, _, rfl, ?_⟩
    refine ite2 (fun hc => ?_) (fun hc => ?_)
    · have hc : (0 : Int) < g := of_decide_eq_true hc
      refine ⟨_, rfl, p, _, _, _, rfl, rfl, SqL.of hp, rfl, _, rfl, _, _, rfl, rfl, hn, ?_⟩
      refine ⟨_, rfl, p, _, _, _, rfl, rfl, SqL.of hp, rfl, _, rfl, _, _, rfl, rfl, ⟨hn, hn2⟩, ?_⟩
      refine ⟨_, rfl, p, _, _, _, rfl, rfl, hp, rfl, ?_⟩
      refine ⟨_, rfl, ?_⟩
      refine k _ _ (Int.emod_nonneg _ (by omega)) (Int.emod_lt_of_pos _ hn) ⟨fun b o nb e => by rw [upd_ne nb]; exact e, _, _, upd_same, Int.ediv_nonneg hg (by omega)⟩
    · refine ⟨_, rfl, p, _, _, _, rfl, rfl, SqL.of hp, rfl, _, _, rfl, rfl, .inr (by decide), _, _, rfl, rfl, .inl ⟨_, rfl, _, _, rfl, rfl, (show (0 : Int) < 2147483647 by decide), ?_⟩⟩
      refine ⟨_, rfl, p, _, _, _, rfl, rfl, hp, rfl, ?_⟩
      refine ⟨_, rfl, p, _, _, _, rfl, rfl, SqL.of upd_same, rfl, _, _, rfl, rfl, ⟨by decide, by decide, ?_⟩, .inl ⟨_, rfl, _, _, rfl, rfl, (show (0 : Int) < 2147483629 by decide), _, rfl, _, _, rfl, rfl, hn, ?_⟩⟩
      · have h1 := Int.emod_nonneg (m * 48271 + 12820163) (show (2147483647 : Int) ≠ 0 by decide)
        have h2 := Int.emod_lt_of_pos (m * 48271 + 12820163) (show (0 : Int) < 2147483647 by decide)
        omega
      · refine k _ _ (Int.emod_nonneg _ (by omega)) (Int.emod_lt_of_pos _ hn) ⟨fun b o nb e => by rw [upd_ne nb]; exact e, _, _, upd_same, hg⟩

theorem ok_law_bag {f : Addr} {fd : FuncData} (F : Fun K "_law_bag" "_law_bag" s_law_bag f fd) (T : Txt K mg) : FnOk P w K mg base CX0 1 f fd ["_law_script", "_law_at"] (sp_law_bag K) := by
  refine F.ok sc_law_bag (fun vs H Q E h => ?_) (fun cdv A outer s H vs Q E hr h => ?_)
  · obtain ⟨_, _, _, rfl, _⟩ := h
    rfl
  · obtain ⟨a, ns, at_, rfl, hS, hat, hlen, k⟩ := h
    refine ⟨_, C8.pss_cut (ps_set (i := 2) sc_law_bag.nd rfl (Or.inl rfl) (pe_ifExp (pt_cmpR op_lt (pv 1) (pe_callB call_len_seq (by rfl) T.b_len (by decide +kernel) (pa_cons (pv 0) pa_nil)) (nomark _)) (pe_ix (r := rIxL K) ix_list (pv 0) (pv 1) (fun _ _ => rfl)) (pe_int)))
      (C8.pss_cut (ps_set (i := 3) sc_law_bag.nd rfl (Or.inl rfl) (pe_ifExp (pt_cmpR op_ge (pe_callB call_abs (by rfl) T.b_abs (by decide +kernel) (pa_cons (pv 2) pa_nil)) (pe_op op_pow (pe_int) (pe_int)) (nomark _)) (pe_callB call_abs (by rfl) T.b_abs (by decide +kernel) (pa_cons (pv 2) pa_nil)) (pe_int)))
      (pss_cons (ps_set (i := 4) sc_law_bag.nd rfl (Or.inl rfl) (pe_op op_add (pe_int) (pe_op op_mul (pe_int) (pv 1))))
      (pss_cons (ps_for PassesOwn.never rfl (pi_list (pe_slice (r := rSlL K) sl_list (pv 0) po_none (po_some (pe_int)))) (pg_name (i := 5) sc_law_bag.nd rfl (Or.inl rfl))
      (pss_one (ps_set (i := 4) sc_law_bag.nd rfl (Or.inl rfl) (pe_op op_mod (pe_callTy call_int1 (by rfl) T.b_int (by decide +kernel) (pa_cons (pe_op op_add (pe_op op_add (pe_op op_mul (pv 4) (pe_int)) (pe_op op_mul (pv 5) (pe_int))) (pe_int)) pa_nil)) (pe_int)))))
      (pss_one (ps_ret (pe_lst (pa_cons (pv 3) (pa_cons (pe_op op_add (pe_op op_mod (pe_callTy call_int1 (by rfl) T.b_int (by decide +kernel) (pa_cons (pe_op op_add (pv 4) (pe_op op_mul (pe_int) (pv 2))) pa_nil)) (pe_int)) (pe_int)) pa_nil)))))))), ?_⟩
    refine ⟨fun σ' H' => ∃ c : Int, σ' = [some (.ref a), some (.int at_), some (.int c), none, none, none] ∧ H' = H, ?_, ?_⟩
    · refine ⟨_, rfl, _, rfl, a, _, rfl, .inl hS, _, _, rfl, rfl, _, rfl, ite2 (fun hc => ?_) (fun hc => ?_)⟩
      · have hc : (at_ : Int) < ((ns.map V.int).length : Nat) := of_decide_eq_true hc
        rw [List.length_map] at hc
        have hc : at_ < ns.length := by omega
        refine ⟨_, rfl, _, rfl, a, _, _, _, rfl, rfl, hS, atI_nat (v := .int ns[at_]) ?_, ?_⟩
        · rw [List.getElem?_map, List.getElem?_eq_getElem hc]
          rfl
        · exact ⟨_, rfl, rfl⟩
      · exact ⟨_, rfl, rfl⟩
    rintro _ H ⟨c, rfl, rfl⟩
    refine ⟨fun σ' H' => ∃ g : Int, σ' = [some (.ref a), some (.int at_), some (.int c), some (.int g), none, none] ∧ H' = H ∧ 0 ≤ g, ?_, ?_⟩
    · refine ⟨_, rfl, _, rfl, _, _, rfl, rfl, ⟨by decide, by decide, by decide⟩, _, _, rfl, rfl, _, rfl, ite2 (fun _ => ?_) (fun _ => ?_)⟩
      · refine ⟨_, rfl, _, rfl, ?_⟩
        refine ⟨_, rfl, rfl, ?_⟩
        split <;> omega
      · exact ⟨_, rfl, rfl, by decide⟩
    rintro _ H ⟨g, rfl, rfl, hg⟩
    refine ⟨_, rfl, _, _, rfl, rfl, .inl ⟨by decide, by decide⟩, _, _, rfl, rfl, ?_⟩
    refine ⟨_, rfl, _, rfl, a, _, rfl, hS, fun l hl => ⟨l, rfl, ⟨_, SqL.of upd_same⟩, ?_⟩⟩
    have s1 : Same H (upd H l (.lst (cutV (ns.map V.int) none (some 40)))) := same_upd hl
    refine for_list (K := K) (a := l) (xs := cutV (ns.map V.int) none (some 40)) (fun i σ' H' => ∃ (m : Int) (v : Option V), σ' = [some (.ref a), some (.int at_), some (.int c), some (.int g), some (.int m), v] ∧ H' = upd H l (.lst (cutV (ns.map V.int) none (some 40))))
      ⟨_, _, rfl, rfl⟩ (fun i σ' H' _ ⟨_, _, _, e⟩ => by rw [e]; exact SqL.of upd_same) ?_ ?_
    · rintro i x σ' H' hx ⟨m, v, rfl, rfl⟩
      obtain ⟨u, rfl⟩ : ∃ u, x = V.int u := by
        have hm : x ∈ cutV (ns.map V.int) none (some 40) := List.mem_of_getElem? hx
        have hm : x ∈ ns.map V.int := List.mem_of_mem_drop (List.mem_of_mem_take hm)
        obtain ⟨u, _, e⟩ := List.mem_map.mp hm
        exact ⟨u, e.symm⟩
      refine ⟨_, rfl, _, _, rfl, rfl, .inr ⟨by decide, by decide⟩, _, rfl, _, _, rfl, rfl, .inr ⟨by decide, by decide⟩, _, _, rfl, rfl, _, _, rfl, rfl, .inl ⟨_, rfl, _, _, rfl, rfl, (show (0 : Int) < 2147483629 by decide), ?_⟩⟩
      exact ⟨_, _, rfl, rfl⟩
    · rintro σ' H' ⟨m, v, rfl, rfl⟩
      refine ⟨_, rfl, _, rfl, _, rfl, _, _, rfl, rfl, .inl ⟨by decide, by decide⟩, _, _, rfl, rfl, .inl ⟨_, rfl, _, _, rfl, rfl, (show (0 : Int) < 2147483563 by decide), _, _, rfl, rfl, (show 2 ≤ sizeLine by decide), fun p hp => ?_⟩⟩
      exact k _ p (s1.trans (same_upd hp)) (s1.free hp) ⟨_, _, upd_same, hg⟩
theorem ok_is_name {f : Addr} {fd : FuncData} (F : Fun K "is_name" "is_name" s_is_name f fd) (T : Txt K mg) : FnOk P w K mg base CX0 1 f fd ["thing"] (sp_is_name K) := by
  refine F.ok sc_is_name (fun vs H Q E h => ?_) (fun cdv A outer s H vs Q E hr h => ?_)
  · obtain ⟨_, rfl, _⟩ := h
    rfl
  · obtain ⟨x, rfl, ⟨n, ty, ks, ki, kb, hz⟩, k⟩ := h
    refine ⟨_, pss_cons (ps_if (PW.pt (pw_or (pt_not (pt_val (pe_callB (r := rIsi K) call_isi (by rfl) T.b_isinstance (by decide +kernel) (pa_cons (pv 0) (pa_cons (pe_bltn (v := .ty "str") (u := .type "str") (by rfl) T.b_str (by decide +kernel) rfl) pa_nil))))) (pw_or1 (pt_not (pt_chain op_le op_le (pe_int) (pe_callB call_len_str (by rfl) T.b_len (by decide +kernel) (pa_cons (pv 0) pa_nil)) (pe_int))))))
      (pss_one (ps_ret (pe_bl)))
      (pss_nil))
      (pss_one (ps_ret (pe_and (pe_cmpR op_in_sign (pe_ix ix_str (pv 0) (pe_int) (fun _ _ => rfl)) (pe_globR rfl T.c_LETTERS) (by rfl)) (pe_one (pe_callB (r := rAll K) (cr_all rfl) (by rfl) T.b_all (by decide +kernel) (pa_cons (pe_lc (own := [("sign", 1)]) (g := gName 1) rfl sc_is_name.nd (pi_str (pv 0)) (blkOk_by (N := ["thing", "sign"]) (sc := defScope s_is_name) (by decide +kernel)) (fun _ _ _ _ _ => pg_name (i := 1) sc_is_name.nd rfl (Or.inl rfl)) (fun _ _ _ _ _ => pts_nil) (fun _ _ _ _ _ => pe_cmpR op_in_sign (pv 1) (pe_op op_add_str (pe_globR rfl T.c_LETTERS) (pe_globR rfl T.c_DIGITS)) (by rfl))) pa_nil)))))), ?_⟩
    refine ⟨_, rfl, _, _, _, _, _, rfl, .ty _, ty, kit_ty ks, _, rfl, ?_⟩
    cases x with
    | str z =>
      obtain ⟨hl, hc⟩ := hz z rfl
      have hl2 : z.length ≤ sizeLine := Nat.le_of_lt (small1000 hl)
      refine iteF ⟨_, rfl, _, rfl, hl2, _, _, rfl, rfl, _, rfl, ite2 (fun h1 => ?_) (fun h1 => ?_)⟩
      · have h1 : (1 : Int) ≤ (z.length : Nat) := of_decide_eq_true h1
        rw [len_cps] at h1
        have h1 : 1 ≤ z.cps.toList.length := by omega
        refine ⟨_, _, rfl, rfl, _, rfl, ite2 (fun h2 => ?_) (fun h2 => ?_)⟩
        · have h2 : ¬ z.cps.toList.length ≤ 8 := by
            intro h
            rw [decide_eq_true (show ((z.length : Nat) : Int) ≤ 8 by rw [len_cps]; omega)] at h2
            cases h2
          exact q_eq (congrArg V.bl (nameB_long h2).symm) (k H (Same.refl H))
        · obtain ⟨c, hc0⟩ := nth_of h1
          refine ⟨_, rfl, z, _, c, rfl, rfl, hl2, atI_zero hc0, _, _, rfl, rfl, _, rfl, ite2 (fun h3 => ?_) (fun h3 => ?_)⟩
          · refine ⟨_, rfl, z, rfl, fun D hD => ?_⟩
            refine lc_str (x := z) (fun i H' => Same H H' ∧ H' D = some (.lst ((z.cps.toList.take i).map fun c => V.bl (isAln c)))) ⟨same_upd hD, upd_same⟩ ?_ ?_
            · rintro i c' H' hi ⟨sm, hD'⟩
              refine ⟨rfl, yesT ⟨_, rfl, _, _, rfl, rfl, by decide +kernel, _, _, rfl, rfl, _, hD', ?_, ?_, ?_⟩⟩
              · rw [List.length_map, List.length_take]
                exact Nat.lt_of_le_of_lt (Nat.min_le_right _ _) (by rw [← len_cps]; exact small1000 hl)
              · exact fun b o e => by rw [upd_ne (ne_of_none e hD)]; exact sm b o e
              · rw [upd_same, List.take_add_one, hi, List.map_append]
                show some (HO.lst (_ ++ [V.bl (decide (c' ∈ (lowS ++ digS).cps.toList))])) = _
                rw [alnS_eq]
                rfl
            · rintro H' ⟨sm, hD'⟩
              rw [List.take_length] at hD'
              refine ⟨D, z.cps.toList.map isAln, rfl, SqL.of (by rw [List.map_map]; exact hD'), q_eq (congrArg V.bl ?_) (k H' sm)⟩
              show _ = nameB _
              unfold nameB
              rw [headD_of hc0, decide_eq_true h1, decide_eq_true (show z.cps.toList.length ≤ 8 by
                cases Nat.lt_or_ge 8 z.cps.toList.length with
                | inl h => exact absurd (by rw [decide_eq_false (show ¬ ((z.length : Nat) : Int) ≤ 8 by rw [len_cps]; omega)]; rfl) h2
                | inr h => exact h), show isLow c = true from h3, List.all_map]
              rfl
          · refine q_eq (congrArg V.bl ?_) (k H (Same.refl H))
            show _ = nameB _
            unfold nameB
            rw [headD_of hc0, show isLow c = false from Bool.eq_false_iff.mpr h3]
            simp
      · have h1 : ¬ 1 ≤ z.cps.toList.length := by
          intro h
          exact h1 (decide_eq_true (by rw [len_cps]; omega))
        exact ⟨_, rfl, iteT (q_eq (congrArg V.bl (nameB_short h1).symm) (k H (Same.refl H)))⟩
    | non => exact iteT (iteT (k H (Same.refl H)))
    | bl b => exact iteT (iteT (k H (Same.refl H)))
    | int i => exact iteT (iteT (k H (Same.refl H)))
    | byt b => exact iteT (iteT (k H (Same.refl H)))
    | flt b => exact iteT (iteT (k H (Same.refl H)))
    | ref a => exact iteT (iteT (k H (Same.refl H)))
    | ty a => exact iteT (iteT (k H (Same.refl H)))

theorem ok_is_kind {f : Addr} {fd : FuncData} (F : Fun K "is_kind" "is_kind" s_is_kind f fd) (T : Txt K mg) : FnOk P w K mg base CX0 1 f fd ["thing"] (sp_is_kind K) := by
  refine F.ok sc_is_kind (fun vs H Q E h => ?_) (fun cdv A outer s H vs Q E hr h => ?_)
  · obtain ⟨_, rfl, _⟩ := h
    rfl
  · obtain ⟨x, rfl, ⟨n, ty, ks, ki, kb, hz⟩, k⟩ := h
    refine ⟨_, pss_cons (ps_if (PW.pt (pw_or (pt_not (pt_val (pe_callB (r := rIsi K) call_isi (by rfl) T.b_isinstance (by decide +kernel) (pa_cons (pv 0) (pa_cons (pe_bltn (v := .ty "str") (u := .type "str") (by rfl) T.b_str (by decide +kernel) rfl) pa_nil))))) (pw_or1 (pt_not (pt_chain op_le op_le (pe_int) (pe_callB call_len_str (by rfl) T.b_len (by decide +kernel) (pa_cons (pv 0) pa_nil)) (pe_int))))))
      (pss_one (ps_ret (pe_bl)))
      (pss_nil))
      (pss_one (ps_ret (pe_and (pe_cmpR op_in_sign (pe_ix ix_str (pv 0) (pe_un un_neg (pe_int)) (fun _ _ => rfl)) (pe_globR rfl T.c_SIZES) (by rfl)) (pe_one (pe_callB (r := rAll K) (cr_all rfl) (by rfl) T.b_all (by decide +kernel) (pa_cons (pe_lc (own := [("sign", 1)]) (g := gName 1) rfl sc_is_kind.nd (pi_str (pe_slice sl_str (pv 0) po_none (po_some (pe_un un_neg (pe_int))))) (blkOk_by (N := ["thing", "sign"]) (sc := defScope s_is_kind) (by decide +kernel)) (fun _ _ _ _ _ => pg_name (i := 1) sc_is_kind.nd rfl (Or.inl rfl)) (fun _ _ _ _ _ => pts_nil) (fun _ _ _ _ _ => pe_cmpR op_in_sign (pv 1) (pe_globR rfl T.c_LETTERS) (by rfl))) pa_nil)))))), ?_⟩
    refine ⟨_, rfl, _, _, _, _, _, rfl, .ty _, ty, kit_ty ks, _, rfl, ?_⟩
    cases x with
    | str z =>
      obtain ⟨hl, hc⟩ := hz z rfl
      have hl2 : z.length ≤ sizeLine := Nat.le_of_lt (small1000 hl)
      refine iteF ⟨_, rfl, _, rfl, hl2, _, _, rfl, rfl, _, rfl, ite2 (fun h1 => ?_) (fun h1 => ?_)⟩
      · have h1 : (2 : Int) ≤ (z.length : Nat) := of_decide_eq_true h1
        rw [len_cps] at h1
        have h1 : 2 ≤ z.cps.toList.length := by omega
        refine ⟨_, _, rfl, rfl, _, rfl, ite2 (fun h2 => ?_) (fun h2 => ?_)⟩
        · have h2 : ¬ z.cps.toList.length ≤ 7 := by
            intro h
            rw [decide_eq_true (show ((z.length : Nat) : Int) ≤ 7 by rw [len_cps]; omega)] at h2
            cases h2
          exact q_eq (congrArg V.bl (kindB_long h2).symm) (k H (Same.refl H))
        · obtain ⟨c, hc0⟩ := last_of (xs := z.cps.toList) (by omega)
          refine ⟨_, rfl, _, rfl, z, _, c, rfl, rfl, hl2, atI_neg1 hc0, _, _, rfl, rfl, _, rfl, ite2 (fun h3 => ?_) (fun h3 => ?_)⟩
          · refine ⟨_, rfl, _, rfl, _, rfl, z, rfl, hl2, _, rfl, fun D hD => ?_⟩
            refine lc_str (x := cutS z none (some (-1 : Int))) (fun i H' => Same H H' ∧ H' D = some (.lst ((z.cps.toList.dropLast.take i).map fun c => V.bl (isLow c)))) ⟨same_upd hD, upd_same⟩ ?_ ?_
            · rintro i c' H' hi ⟨sm, hD'⟩
              rw [cut_front] at hi
              refine ⟨rfl, yesT ⟨_, rfl, _, _, rfl, rfl, _, hD', ?_, ?_, ?_⟩⟩
              · rw [List.length_map, List.length_take, List.length_dropLast]
                exact Nat.lt_of_le_of_lt (Nat.min_le_right _ _) (by rw [← len_cps]; exact small1000 (by omega))
              · exact fun b o e => by rw [upd_ne (ne_of_none e hD)]; exact sm b o e
              · rw [upd_same, List.take_add_one, hi, List.map_append]
                rfl
            · rintro H' ⟨sm, hD'⟩
              rw [cut_front, List.take_length] at hD'
              refine ⟨D, z.cps.toList.dropLast.map isLow, rfl, SqL.of (by rw [List.map_map]; exact hD'), q_eq (congrArg V.bl ?_) (k H' sm)⟩
              show _ = kindB _
              unfold kindB
              rw [getLastD_of hc0, decide_eq_true h1, decide_eq_true (show z.cps.toList.length ≤ 7 by
                cases Nat.lt_or_ge 7 z.cps.toList.length with
                | inl h => exact absurd (by rw [decide_eq_false (show ¬ ((z.length : Nat) : Int) ≤ 7 by rw [len_cps]; omega)]; rfl) h2
                | inr h => exact h), show isSiz c = true from h3, List.all_map]
              rfl
          · refine q_eq (congrArg V.bl ?_) (k H (Same.refl H))
            exact (kindB_siz (by rw [getLastD_of hc0]; exact Bool.eq_false_iff.mpr h3)).symm
      · have h1 : ¬ 2 ≤ z.cps.toList.length := by
          intro h
          exact h1 (decide_eq_true (by rw [len_cps]; omega))
        exact ⟨_, rfl, iteT (q_eq (congrArg V.bl (kindB_short h1).symm) (k H (Same.refl H)))⟩
    | non => exact iteT (iteT (k H (Same.refl H)))
    | bl b => exact iteT (iteT (k H (Same.refl H)))
    | int i => exact iteT (iteT (k H (Same.refl H)))
    | byt b => exact iteT (iteT (k H (Same.refl H)))
    | flt b => exact iteT (iteT (k H (Same.refl H)))
    | ref a => exact iteT (iteT (k H (Same.refl H)))
    | ty a => exact iteT (iteT (k H (Same.refl H)))
theorem ok_size_of {f : Addr} {fd : FuncData} (F : Fun K "size_of" "size_of" s_size_of f fd) (T : Txt K mg) : FnOk P w K mg base CX0 1 f fd ["kind"] (sp_size_of K) := by
  refine F.ok sc_size_of (fun vs H Q E h => ?_) (fun cdv A outer s H vs Q E hr h => ?_)
  · obtain ⟨_, _, rfl, _⟩ := h
    rfl
  · obtain ⟨z, c, rfl, ⟨hl, _⟩, hc, hs, k⟩ := h
    refine ⟨_, pss_one (ps_ret (pe_callTy call_int_str (by rfl) T.b_int (by decide +kernel) (pa_cons (pe_ix ix_str (pv 0) (pe_un un_neg (pe_int)) (fun _ _ => rfl)) pa_nil))), ?_⟩
    exact ⟨_, rfl, _, rfl, z, _, c, rfl, rfl, Nat.le_of_lt (small1000 hl), atI_neg1 hc, _, _, rfl, siz_text hs, (show 1 ≤ 640 by decide), k⟩
theorem ok_law_whole {f : Addr} {fd : FuncData} (F : Fun K "_law_whole" "_law_whole" s_law_whole f fd) (T : Txt K mg) : FnOk P w K mg base CX0 1 f fd ["_law_thing"] (sp_law_whole K) := by
  refine F.ok sc_law_whole (fun vs H Q E h => ?_) (fun cdv A outer s H vs Q E hr h => ?_)
  · obtain ⟨_, rfl, _⟩ := h
    rfl
  · obtain ⟨x, rfl, ⟨n, ty, ks, ki, kb, hz⟩, k⟩ := h
    refine ⟨_, pss_one (ps_ret (pe_and (pe_callB (r := rIsi K) call_isi (by rfl) T.b_isinstance (by decide +kernel) (pa_cons (pv 0) (pa_cons (pe_bltn (v := .ty "int") (u := .type "int") (by rfl) T.b_int (by decide +kernel) rfl) pa_nil))) (pe_one (pe_not (pe_callB (r := rIsi K) call_isi (by rfl) T.b_isinstance (by decide +kernel) (pa_cons (pv 0) (pa_cons (pe_bltn (v := .ty "bool") (u := .type "bool") (by rfl) T.b_bool (by decide +kernel) rfl) pa_nil))))))), ?_⟩
    refine ⟨_, rfl, _, _, _, _, _, rfl, .ty _, ty, kit_ty ki, _, rfl, ite2 (fun h1 => ?_) (fun h1 => ?_)⟩
    · refine ⟨_, rfl, _, _, _, _, _, rfl, .ty _, ty, kit_ty kb, _, rfl, q_eq (congrArg V.bl ?_) (k H (Same.refl H))⟩
      show _ = (_ && _)
      rw [h1]
      rfl
    · refine q_eq (congrArg V.bl ?_) (k H (Same.refl H))
      show _ = (_ && _)
      rw [Bool.eq_false_iff.mpr h1]
      rfl
theorem ok_law_name_ok {f : Addr} {fd : FuncData} (F : Fun K "_law_name_ok" "_law_name_ok" s_law_name_ok f fd) (T : Txt K mg) : FnOk P w K mg base CX0 1 f fd ["_law_thing"] (sp_law_name_ok K) := by
  refine F.ok sc_law_name_ok (fun vs H Q E h => ?_) (fun cdv A outer s H vs Q E hr h => ?_)
  · obtain ⟨_, rfl, _⟩ := h
    rfl
  · obtain ⟨x, rfl, ⟨n, ty, ks, ki, kb, hz⟩, k⟩ := h
    refine ⟨_, pss_cons (ps_if (PW.pt (pw_or (pt_not (pt_val (pe_callB (r := rIsi K) call_isi (by rfl) T.b_isinstance (by decide +kernel) (pa_cons (pv 0) (pa_cons (pe_bltn (v := .ty "str") (u := .type "str") (by rfl) T.b_str (by decide +kernel) rfl) pa_nil))))) (pw_or (pt_not (pt_chain op_le op_le (pe_int) (pe_callB call_len_str (by rfl) T.b_len (by decide +kernel) (pa_cons (pv 0) pa_nil)) (pe_int))) (pw_or1 (pt_cmpR op_in_sign (pe_ix ix_str (pv 0) (pe_int) (fun _ _ => rfl)) (pe_str) (by rfl))))))
      (pss_one (ps_ret (pe_bl)))
      (pss_nil))
      (pss_one (ps_ret (pe_cmpR (op_eqD hr.units) (pe_lc (own := [("_law_sign", 1)]) (g := gName 1) rfl sc_law_name_ok.nd (pi_str (pv 0)) (blkOk_by (N := ["_law_thing", "_law_sign"]) (sc := defScope s_law_name_ok) (by decide +kernel)) (fun _ _ _ _ _ => pg_name (i := 1) sc_law_name_ok.nd rfl (Or.inl rfl)) (fun _ _ _ _ _ => pts_one (pt_cmpR op_notIn_sign (pv 1) (pe_str) (by rfl))) (fun _ _ _ _ _ => pv 1)) (pe_lst pa_nil) (nomark _)))), ?_⟩
    refine ⟨_, rfl, _, _, _, _, _, rfl, .ty _, ty, kit_ty ks, _, rfl, ?_⟩
    cases x with
    | str z =>
      obtain ⟨hl, hc⟩ := hz z rfl
      have hl2 : z.length ≤ sizeLine := Nat.le_of_lt (small1000 hl)
      refine iteF ⟨_, rfl, _, rfl, hl2, _, _, rfl, rfl, _, rfl, ite2 (fun h1 => ?_) (fun h1 => ?_)⟩
      · have h1 : (1 : Int) ≤ (z.length : Nat) := of_decide_eq_true h1
        rw [len_cps] at h1
        have h1 : 1 ≤ z.cps.toList.length := by omega
        refine ⟨_, _, rfl, rfl, _, rfl, ite2 (fun h2 => ?_) (fun h2 => ?_)⟩
        · have h2 : ¬ z.cps.toList.length ≤ 8 := by
            intro h
            rw [decide_eq_true (show ((z.length : Nat) : Int) ≤ 8 by rw [len_cps]; omega)] at h2
            cases h2
          exact iteT (q_eq (congrArg V.bl (nameB_long h2).symm) (k H (Same.refl H)))
        · have h2 : z.cps.toList.length ≤ 8 := by
            cases Nat.lt_or_ge 8 z.cps.toList.length with
            | inl h => exact absurd (by rw [decide_eq_false (show ¬ ((z.length : Nat) : Int) ≤ 8 by rw [len_cps]; omega)]; rfl) h2
            | inr h => exact h
          obtain ⟨c, hc0⟩ := nth_of h1
          refine ⟨_, rfl, z, _, c, rfl, rfl, hl2, atI_zero hc0, _, _, rfl, rfl, _, rfl, ite2 (fun h3 => ?_) (fun h3 => ?_)⟩
          · exact q_eq (congrArg V.bl (nameB_dig (by rw [headD_of hc0]; exact h3)).symm) (k H (Same.refl H))
          · refine ⟨_, rfl, z, rfl, fun D hD => ?_⟩
            refine lc_str (x := z) (fun i H' => Same H H' ∧ H' D = some (.lst (((z.cps.toList.take i).filter fun c => !isAln c).map fun c => V.str ⟨#[c]⟩))) ⟨same_upd hD, upd_same⟩ ?_ ?_
            · rintro i c' H' hi ⟨sm, hD'⟩
              refine ⟨rfl, _, rfl, _, _, rfl, rfl, _, rfl, ite2 (fun h4 => ?_) (fun h4 => ?_)⟩
              · refine ⟨_, rfl, _, hD', ?_, ?_, ?_⟩
                · rw [List.length_map]
                  exact Nat.lt_of_le_of_lt (List.length_filter_le _ _) (by rw [List.length_take]; exact Nat.lt_of_le_of_lt (Nat.min_le_right _ _) (by rw [← len_cps]; exact small1000 hl))
                · exact fun b o e => by rw [upd_ne (ne_of_none e hD)]; exact sm b o e
                · rw [upd_same, List.take_add_one, hi, List.filter_append, List.map_append]
                  have h4 : (!isAln c') = true := h4
                  show _ = some (HO.lst (_ ++ List.map _ (List.filter _ [c'])))
                  rw [List.filter_cons, if_pos h4]
                  rfl
              · refine ⟨sm, ?_⟩
                rw [List.take_add_one, hi, List.filter_append, List.map_append]
                have h4 : ¬ (!isAln c') = true := h4
                show _ = some (HO.lst (_ ++ List.map _ (List.filter _ [c'])))
                rw [List.filter_cons, if_neg h4, hD']
                show _ = some (HO.lst (_ ++ []))
                rw [List.append_nil]
            · rintro H' ⟨sm, hD'⟩
              rw [List.take_length] at hD'
              refine ⟨Nat.zero_le _, fun L hL => ?_⟩
              have n1 : D ≠ L := fun e => by rw [e, hL] at hD'; cases hD'
              have hD2 : (upd H' L (.lst [])) D = _ := (upd_ne n1).trans hD'
              refine ⟨_, _, .lst (SqL.of hD2) (dpAll_signs _), .lst (SqL.of upd_same) .nil, shaped_signs fun c h => hc c (List.mem_filter.mp h).1, rfl, q_eq (congrArg V.bl ?_) (k _ (sm.trans (same_upd hL)))⟩
              rw [eqv_signs]
              exact (nameB_ok h1 h2 (by rw [headD_of hc0]; exact Bool.eq_false_iff.mpr h3)).symm
      · have h1 : ¬ 1 ≤ z.cps.toList.length := by
          intro h
          exact h1 (decide_eq_true (by rw [len_cps]; omega))
        exact ⟨_, rfl, iteT (iteT (q_eq (congrArg V.bl (nameB_short h1).symm) (k H (Same.refl H))))⟩
    | non => exact iteT (iteT (k H (Same.refl H)))
    | bl b => exact iteT (iteT (k H (Same.refl H)))
    | int i => exact iteT (iteT (k H (Same.refl H)))
    | byt b => exact iteT (iteT (k H (Same.refl H)))
    | flt b => exact iteT (iteT (k H (Same.refl H)))
    | ref a => exact iteT (iteT (k H (Same.refl H)))
    | ty a => exact iteT (iteT (k H (Same.refl H)))
theorem ok_law_kind_ok {f : Addr} {fd : FuncData} (F : Fun K "_law_kind_ok" "_law_kind_ok" s_law_kind_ok f fd) (T : Txt K mg) : FnOk P w K mg base CX0 1 f fd ["_law_thing"] (sp_law_kind_ok K) := by
  refine F.ok sc_law_kind_ok (fun vs H Q E h => ?_) (fun cdv A outer s H vs Q E hr h => ?_)
  · obtain ⟨_, rfl, _⟩ := h
    rfl
  · obtain ⟨x, rfl, ⟨n, ty, ks, ki, kb, hz⟩, k⟩ := h
    refine ⟨_, pss_cons (ps_if (PW.pt (pw_or (pt_not (pt_val (pe_callB (r := rIsi K) call_isi (by rfl) T.b_isinstance (by decide +kernel) (pa_cons (pv 0) (pa_cons (pe_bltn (v := .ty "str") (u := .type "str") (by rfl) T.b_str (by decide +kernel) rfl) pa_nil))))) (pw_or (pt_not (pt_chain op_le op_le (pe_int) (pe_callB call_len_str (by rfl) T.b_len (by decide +kernel) (pa_cons (pv 0) pa_nil)) (pe_int))) (pw_or1 (pt_cmpR op_notIn_sign (pe_ix ix_str (pv 0) (pe_un un_neg (pe_int)) (fun _ _ => rfl)) (pe_str) (by rfl))))))
      (pss_one (ps_ret (pe_bl)))
      (pss_nil))
      (pss_one (ps_ret (pe_cmpR (op_eqD hr.units) (pe_lc (own := [("_law_sign", 1)]) (g := gName 1) rfl sc_law_kind_ok.nd (pi_str (pe_slice sl_str (pv 0) po_none (po_some (pe_un un_neg (pe_int))))) (blkOk_by (N := ["_law_thing", "_law_sign"]) (sc := defScope s_law_kind_ok) (by decide +kernel)) (fun _ _ _ _ _ => pg_name (i := 1) sc_law_kind_ok.nd rfl (Or.inl rfl)) (fun _ _ _ _ _ => pts_one (pt_cmpR op_notIn_sign (pv 1) (pe_str) (by rfl))) (fun _ _ _ _ _ => pv 1)) (pe_lst pa_nil) (nomark _)))), ?_⟩
    refine ⟨_, rfl, _, _, _, _, _, rfl, .ty _, ty, kit_ty ks, _, rfl, ?_⟩
    cases x with
    | str z =>
      obtain ⟨hl, hc⟩ := hz z rfl
      have hl2 : z.length ≤ sizeLine := Nat.le_of_lt (small1000 hl)
      refine iteF ⟨_, rfl, _, rfl, hl2, _, _, rfl, rfl, _, rfl, ite2 (fun h1 => ?_) (fun h1 => ?_)⟩
      · have h1 : (2 : Int) ≤ (z.length : Nat) := of_decide_eq_true h1
        rw [len_cps] at h1
        have h1 : 2 ≤ z.cps.toList.length := by omega
        refine ⟨_, _, rfl, rfl, _, rfl, ite2 (fun h2 => ?_) (fun h2 => ?_)⟩
        · have h2 : ¬ z.cps.toList.length ≤ 7 := by
            intro h
            rw [decide_eq_true (show ((z.length : Nat) : Int) ≤ 7 by rw [len_cps]; omega)] at h2
            cases h2
          exact iteT (q_eq (congrArg V.bl (kindB_long h2).symm) (k H (Same.refl H)))
        · have h2 : z.cps.toList.length ≤ 7 := by
            cases Nat.lt_or_ge 7 z.cps.toList.length with
            | inl h => exact absurd (by rw [decide_eq_false (show ¬ ((z.length : Nat) : Int) ≤ 7 by rw [len_cps]; omega)]; rfl) h2
            | inr h => exact h
          obtain ⟨c, hc0⟩ := last_of (xs := z.cps.toList) (by omega)
          refine ⟨_, rfl, _, rfl, z, _, c, rfl, rfl, hl2, atI_neg1 hc0, _, _, rfl, rfl, _, rfl, ite2 (fun h3 => ?_) (fun h3 => ?_)⟩
          · have h3 : (!isSiz c) = true := h3
            exact q_eq (congrArg V.bl (kindB_siz (by rw [getLastD_of hc0]; exact Bool.eq_false_iff.mpr fun q => by rw [q] at h3; cases h3)).symm) (k H (Same.refl H))
          · have h3 : ¬ (!isSiz c) = true := h3
            have h3 : isSiz c = true := by
              cases q : isSiz c with
              | true => rfl
              | false => rw [q] at h3; exact absurd rfl h3
            refine ⟨_, rfl, _, rfl, _, rfl, z, rfl, hl2, _, rfl, fun D hD => ?_⟩
            refine lc_str (x := cutS z none (some (-1 : Int))) (fun i H' => Same H H' ∧ H' D = some (.lst (((z.cps.toList.dropLast.take i).filter fun c => !isLow c).map fun c => V.str ⟨#[c]⟩))) ⟨same_upd hD, upd_same⟩ ?_ ?_
            · rintro i c' H' hi ⟨sm, hD'⟩
              rw [cut_front] at hi
              refine ⟨rfl, _, rfl, _, _, rfl, rfl, _, rfl, ite2 (fun h4 => ?_) (fun h4 => ?_)⟩
              · refine ⟨_, rfl, _, hD', ?_, ?_, ?_⟩
                · rw [List.length_map]
                  exact Nat.lt_of_le_of_lt (List.length_filter_le _ _) (by rw [List.length_take, List.length_dropLast]; exact Nat.lt_of_le_of_lt (Nat.min_le_right _ _) (by rw [← len_cps]; exact small1000 (by omega)))
                · exact fun b o e => by rw [upd_ne (ne_of_none e hD)]; exact sm b o e
                · rw [upd_same, List.take_add_one, hi, List.filter_append, List.map_append]
                  have h4 : (!isLow c') = true := h4
                  show _ = some (HO.lst (_ ++ List.map _ (List.filter _ [c'])))
                  rw [List.filter_cons, if_pos h4]
                  rfl
              · refine ⟨sm, ?_⟩
                rw [List.take_add_one, hi, List.filter_append, List.map_append]
                have h4 : ¬ (!isLow c') = true := h4
                show _ = some (HO.lst (_ ++ List.map _ (List.filter _ [c'])))
                rw [List.filter_cons, if_neg h4, hD']
                show _ = some (HO.lst (_ ++ []))
                rw [List.append_nil]
            · rintro H' ⟨sm, hD'⟩
              rw [cut_front, List.take_length] at hD'
              refine ⟨Nat.zero_le _, fun L hL => ?_⟩
              have n1 : D ≠ L := fun e => by rw [e, hL] at hD'; cases hD'
              have hD2 : (upd H' L (.lst [])) D = _ := (upd_ne n1).trans hD'
              refine ⟨_, _, .lst (SqL.of hD2) (dpAll_signs _), .lst (SqL.of upd_same) .nil, shaped_signs fun c h => hc c ((List.dropLast_sublist _).subset (List.mem_filter.mp h).1), rfl, q_eq (congrArg V.bl ?_) (k _ (sm.trans (same_upd hL)))⟩
              rw [eqv_signs]
              exact (kindB_ok h1 h2 (by rw [getLastD_of hc0]; exact h3)).symm
      · have h1 : ¬ 2 ≤ z.cps.toList.length := by
          intro h
          exact h1 (decide_eq_true (by rw [len_cps]; omega))
        exact ⟨_, rfl, iteT (iteT (q_eq (congrArg V.bl (kindB_short h1).symm) (k H (Same.refl H))))⟩
    | non => exact iteT (iteT (k H (Same.refl H)))
    | bl b => exact iteT (iteT (k H (Same.refl H)))
    | int i => exact iteT (iteT (k H (Same.refl H)))
    | byt b => exact iteT (iteT (k H (Same.refl H)))
    | flt b => exact iteT (iteT (k H (Same.refl H)))
    | ref a => exact iteT (iteT (k H (Same.refl H)))
    | ty a => exact iteT (iteT (k H (Same.refl H)))

theorem ok_law_string {f : Addr} {fd : FuncData} (F : Fun K "_law_string" "_law_string" s_law_string f fd) (T : Txt K mg) (D_law_take : Df P w K mg base "_law_take" 1 ["_law_bag_here", "_law_many"] (sp_law_take K)) : FnOk P w K mg base CX0 2 f fd ["_law_bag_here"] (sp_law_string K) := by
  refine F.ok sc_law_string (fun vs H Q E h => ?_) (fun cdv A outer s H vs Q E hr h => ?_)
  · obtain ⟨_, rfl, _⟩ := h
    rfl
  · obtain ⟨p, rfl, hb, k⟩ := h
    refine ⟨_, pss_cons (ps_set (i := 1) sc_law_string.nd rfl (Or.inr rfl) (pe_str))
      (pss_cons (ps_set (i := 1) sc_law_string.nd rfl (Or.inr rfl) (pe_op op_add_str (pv 1) (pe_str)))
      (pss_cons (ps_asg (pe_tup (pa_cons (pe_callD D_law_take (hr.mono (by decide)) (by rfl) (pa_cons (pv 0) (pa_cons (pe_int) pa_nil))) (pa_cons (pe_callD D_law_take (hr.mono (by decide)) (by rfl) (pa_cons (pv 0) (pa_cons (pe_int) pa_nil))) pa_nil))) (pg_tup (by rfl) (pgs_cons (pg_name (i := 2) sc_law_string.nd rfl (Or.inr rfl)) (pgs_cons (pg_name (i := 3) sc_law_string.nd rfl (Or.inl rfl)) pgs_nil))))
      (pss_cons (ps_if (pt_cmpR op_eq (pv 2) (pe_int) (nomark _))
      (pss_one (ps_ret (pe_join (pe_str) (pe_lc (own := [("_law_k", 8)]) (g := gName 8) rfl sc_law_string.nd (pi_range1 (by rfl) T.b_range (pa_cons (pv 3) pa_nil)) (blkOk_by (N := ["_law_bag_here", "_law_every", "_law_way", "_law_size", "_law_text", "_law_at", "_law_more", "_law_sign", "_law_k"]) (sc := defScope s_law_string) (by decide +kernel)) (fun _ _ _ _ _ => pg_name (i := 8) sc_law_string.nd rfl (Or.inl rfl)) (fun _ _ _ _ _ => pts_nil) (fun _ _ _ _ _ => pe_ix ix_str (pv 1) (pe_callD D_law_take (hr.mono (by decide)) (by rfl) (pa_cons (pv 0) (pa_cons (pe_callB call_len_str (by rfl) T.b_len (by decide +kernel) (pa_cons (pv 1) pa_nil)) pa_nil))) (fun _ _ => rfl))))))
      (pss_nil))
      (pss_cons (ps_set (i := 4) sc_law_string.nd rfl (Or.inl rfl) (pe_join (pe_str) (pe_lc (own := [("_law_k", 8)]) (g := gName 8) rfl sc_law_string.nd (pi_range1 (by rfl) T.b_range (pa_cons (pv 3) pa_nil)) (blkOk_by (N := ["_law_bag_here", "_law_every", "_law_way", "_law_size", "_law_text", "_law_at", "_law_more", "_law_sign", "_law_k"]) (sc := defScope s_law_string) (by decide +kernel)) (fun _ _ _ _ _ => pg_name (i := 8) sc_law_string.nd rfl (Or.inl rfl)) (fun _ _ _ _ _ => pts_nil) (fun _ _ _ _ _ => pe_ix ix_str (pv 1) (pe_callD D_law_take (hr.mono (by decide)) (by rfl) (pa_cons (pv 0) (pa_cons (pe_ix (r := rIxL K) ix_list (pe_lst (pa_cons (pe_int) (pa_cons (pe_int) pa_nil))) (pe_op op_fdiv (pv 2) (pe_int)) (fun _ _ => rfl)) pa_nil))) (fun _ _ => rfl)))))
      (C8.pss_cut (ps_if (pt_cmpR op_gt (pv 2) (pe_int) (nomark _))
      (pss_one (ps_set (i := 4) sc_law_string.nd rfl (Or.inl rfl) (pe_op op_add_str (pe_slice sl_str (pv 4) po_none (po_some (pe_int))) (pe_ix ix_str (pv 1) (pe_op op_add (pe_int) (pe_callD D_law_take (hr.mono (by decide)) (by rfl) (pa_cons (pv 0) (pa_cons (pe_int) pa_nil)))) (fun _ _ => rfl)))))
      (pss_nil))
      (C8.pss_cut (ps_if (pt_cmpR op_eq (pe_callD D_law_take (hr.mono (by decide)) (by rfl) (pa_cons (pv 0) (pa_cons (pe_int) pa_nil))) (pe_int) (nomark _))
      (pss_cons (ps_par (i := 5) (j := 6) (by rfl) sc_law_string.nd rfl rfl (by decide) rfl rfl (pa_cons (pe_callD D_law_take (hr.mono (by decide)) (by rfl) (pa_cons (pv 0) (pa_cons (pe_op op_add (pe_callB call_len_str (by rfl) T.b_len (by decide +kernel) (pa_cons (pv 4) pa_nil)) (pe_int)) pa_nil))) (pa_cons (pe_callD D_law_take (hr.mono (by decide)) (by rfl) (pa_cons (pv 0) (pa_cons (pe_int) pa_nil))) pa_nil)) (by rfl))
      (pss_cons (ps_set (i := 7) sc_law_string.nd rfl (Or.inl rfl) (pe_ix ix_str (pv 1) (pe_callD D_law_take (hr.mono (by decide)) (by rfl) (pa_cons (pv 0) (pa_cons (pe_ix (r := rIxL K) ix_list (pe_lst (pa_cons (pe_callB call_len_str (by rfl) T.b_len (by decide +kernel) (pa_cons (pv 1) pa_nil)) (pa_cons (pe_int) pa_nil))) (pe_callD D_law_take (hr.mono (by decide)) (by rfl) (pa_cons (pv 0) (pa_cons (pe_int) pa_nil))) (fun _ _ => rfl)) pa_nil))) (fun _ _ => rfl)))
      (pss_one (ps_set (i := 4) sc_law_string.nd rfl (Or.inl rfl) (pe_op op_add_str (pe_op op_add_str (pe_slice sl_str (pv 4) po_none (po_some (pv 5))) (pe_op op_mulS (pv 7) (pe_callTy call_int1 (by rfl) T.b_int (by decide +kernel) (pa_cons (pe_cmpR op_gt (pv 6) (pe_int) (nomark _)) pa_nil)))) (pe_slice sl_str (pv 4) (po_some (pe_op op_add (pv 5) (pe_callTy call_int1 (by rfl) T.b_int (by decide +kernel) (pa_cons (pe_cmpR op_lt (pv 6) (pe_int) (nomark _)) pa_nil)))) po_none))))))
      (pss_nil))
      (pss_one (ps_ret (pv 4))))))))), ?_⟩
    refine ⟨_, rfl, _, _, rfl, rfl, by decide +kernel, ?_⟩
    refine ⟨_, rfl, p, 5, rfl, by decide, by decide, hb, fun H1 way w0 w1 k1 => ?_⟩
    refine ⟨_, rfl, p, 11, rfl, by decide, by decide, k1.2, fun H2 size z0 z1 k2 => ?_⟩
    refine ⟨(show 2 ≤ sizeLine by decide), fun t ht => ?_⟩
    have k3 : Kept p H (upd H2 t (.tup [.int way, .int size])) := (k1.trans k2).upd ht
    refine ⟨t, [.int way, .int size], rfl, .inl (.inl upd_same), rfl, _, _, rfl, _, _, rfl, rfl, ?_⟩
    generalize upd H2 t (.tup [.int way, .int size]) = H3 at k3
    refine ⟨_, rfl, rfl, _, rfl, ite2 (fun _ => ?_) (fun _ => ?_)⟩
    · refine ⟨⟨_, rfl⟩, _, rfl, _, rfl, by omega, by omega, fun D hD => ?_⟩
      have nD := k3.2.ne hD
      refine lc_range (lo := 0) (n := size.toNat) (fun i H' => ∃ zs : List Nat, Kept p H3 H' ∧ H' D = some (.lst (zs.map fun c => V.str ⟨#[c]⟩)) ∧ zs.length = i ∧ ∀ c ∈ zs, c < 128)
        ⟨[], (Kept.refl k3.2).upd hD, upd_same, rfl, fun _ h => nomatch h⟩ ?_ ?_
      · rintro i H' hi ⟨zs, kk, hz, hl, hc⟩
        refine ⟨rfl, yesT ⟨_, rfl, _, rfl, _, rfl, _, rfl, by decide +kernel, ?_⟩⟩
        refine ⟨p, _, rfl, by decide +kernel, by decide +kernel, kk.2, fun H4 r r0 r1 k4 => ?_⟩
        obtain ⟨c, e, c1⟩ := every_at r0 (by have r1 : r < ((everyS.length : Nat) : Int) := r1; rw [every_len'] at r1; exact r1)
        refine ⟨everyS, _, c, rfl, rfl, by decide +kernel, e, _, k4.get hz nD.symm, ?_, zs ++ [c], ?_, ?_, ?_, ?_⟩
        · rw [List.length_map]
          exact small1000 (by omega)
        · exact (kk.trans k4).upd2 hD nD
        · rw [upd_same, List.map_append]
          rfl
        · rw [List.length_append, hl]
          rfl
        · intro d hd
          rcases List.mem_append.mp hd with q | q
          · exact hc d q
          · rw [List.mem_singleton.mp q]
            exact c1
      · rintro H' ⟨zs, kk, hz, hl, hc⟩
        refine ⟨Str.empty, D, zs.map fun c => (⟨#[c]⟩ : Str), rfl, rfl, .inl (SqL.of (by rw [List.map_map]; exact hz)), ?_, k _ _ (k3.trans kk) ((join_ok (n := 11) (by omega) hc).ok (by decide))⟩
        rw [sum_signs, List.length_map]
        show zs.length + zs.length * 0 ≤ _
        omega
    · refine ⟨⟨_, rfl⟩, _, rfl, _, rfl, by omega, by omega, fun D hD => ?_⟩
      have nD := k3.2.ne hD
      refine lc_range (lo := 0) (n := size.toNat) (fun i H' => ∃ zs : List Nat, Kept p H3 H' ∧ H' D = some (.lst (zs.map fun c => V.str ⟨#[c]⟩)) ∧ zs.length = i ∧ ∀ c ∈ zs, c < 128)
        ⟨[], (Kept.refl k3.2).upd hD, upd_same, rfl, fun _ h => nomatch h⟩ ?_ ?_
      · rintro i H' hi ⟨zs, kk, hz, hl, hc⟩
        refine ⟨rfl, yesT ⟨_, rfl, _, rfl, (show 2 ≤ sizeLine by decide), fun L hL => ?_⟩⟩
        have nDL : D ≠ L := ne_of_none hz hL
        obtain ⟨m, hm, m0, m1⟩ : ∃ m : Int, atI [V.int 36, V.int 26] (way / 3) = some (.int m) ∧ 0 < m ∧ m ≤ 36 := by
          have : way / 3 = 0 ∨ way / 3 = 1 := by omega
          rcases this with q | q <;> rw [q]
          · exact ⟨36, rfl, by decide, by decide⟩
          · exact ⟨26, rfl, by decide, by decide⟩
        refine ⟨_, rfl, _, _, rfl, rfl, ⟨by decide, by decide⟩, L, _, _, _, rfl, rfl, SqL.of upd_same, hm, ?_⟩
        have kL : Kept p H3 (upd H' L (.lst [.int 36, .int 26])) := kk.upd hL
        refine ⟨p, _, rfl, m0, by omega, kL.2, fun H4 r r0 r1 k4 => ?_⟩
        obtain ⟨c, e, c1⟩ := every_at r0 (by omega)
        have hz4 : H4 D = some (.lst (zs.map fun c => V.str ⟨#[c]⟩)) := k4.get (by rw [upd_ne nDL]; exact hz) nD.symm
        refine ⟨everyS, _, c, rfl, rfl, by decide +kernel, e, _, hz4, ?_, zs ++ [c], ?_, ?_, ?_, ?_⟩
        · rw [List.length_map]
          exact small1000 (by omega)
        · exact (kL.trans k4).upd2 hD nD
        · rw [upd_same, List.map_append]
          rfl
        · rw [List.length_append, hl]
          rfl
        · intro d hd
          rcases List.mem_append.mp hd with q | q
          · exact hc d q
          · rw [List.mem_singleton.mp q]
            exact c1
      · rintro H4 ⟨zs, kk, hz, hl, hc⟩
        refine ⟨Str.empty, D, zs.map fun c => (⟨#[c]⟩ : Str), rfl, rfl, .inl (SqL.of (by rw [List.map_map]; exact hz)), ?_, ?_⟩
        · rw [sum_signs, List.length_map]
          show zs.length + zs.length * 0 ≤ _
          omega
        have ok0 := join_ok (n := 10) (by omega) hc
        generalize Txt.join Str.empty (zs.map fun c => (⟨#[c]⟩ : Str)) = z0 at ok0
        have k4 := k3.trans kk
        clear kk hz
        refine ⟨fun σ' H' => ∃ z, σ' = [some (.ref p), some (.str everyS), some (.int way), some (.int size), some (.str z), none, none, none, none] ∧ Kept p H H' ∧ TxtN 11 z, ?_, ?_⟩
        · refine ⟨_, rfl, _, _, rfl, rfl, _, rfl, ite2 (fun _ => ?_) (fun _ => ?_)⟩
          · refine ⟨_, rfl, 7, rfl, z0, rfl, Nat.le_of_lt (small1000 (by have := ok0.1; omega)), _, rfl, _, rfl, p, _, rfl, by decide, by decide, k4.2, fun H5 r r0 r1 k5 => ?_⟩
            obtain ⟨c, e, c1⟩ := every_at (i := 26 + r) (by omega) (by omega)
            refine ⟨_, _, rfl, rfl, everyS, _, c, rfl, rfl, by decide +kernel, e, _, _, rfl, rfl, ?_, _, rfl, k4.trans k5, (ok0.cut none (some 7)).app (TxtN.one c1)⟩
            have h1 := (ok0.cut none (some 7)).1
            exact Nat.le_of_lt (small1000 (by show _ + 1 ≤ 1000; omega))
          · exact ⟨_, rfl, k4, ok0.mono (by decide)⟩
        rintro _ H5 ⟨z, rfl, k5, okz⟩
        refine ⟨fun σ' H' => ∃ z a b c d, σ' = [some (.ref p), some (.str everyS), some (.int way), some (.int size), some (.str z), a, b, c, d] ∧ Kept p H H' ∧ TxtN 100 z, ?_, ?_⟩
        · refine ⟨_, rfl, p, 2, rfl, by decide, by decide, k5.2, fun H6 r r0 r1 k6 => ⟨rfl, _, rfl, ite2 (fun _ => ?_) (fun _ => ?_)⟩⟩
          · have zl := okz.1
            refine ⟨_, rfl, _, rfl, z, rfl, Nat.le_of_lt (small1000 (by omega)), _, _, rfl, rfl, p, _, rfl, by omega, by omega, k6.2, fun H7 at_ a0 a1 k7 => ?_⟩
            refine ⟨_, rfl, p, 3, rfl, by decide, by decide, k7.2, fun H8 more m0 m1 k8 => ⟨_, _, rfl, ?_⟩⟩
            have k8' := ((k5.trans k6).trans k7).trans k8
            refine ⟨_, rfl, _, rfl, _, rfl, _, rfl, by decide +kernel, (show 2 ≤ sizeLine by decide), fun L hL => ?_⟩
            have k9 : Kept p H (upd H8 L (.lst [.int ((everyS.length : Nat) : Int), .int 36])) := k8'.upd hL
            refine ⟨_, rfl, p, 2, rfl, by decide, by decide, k9.2, fun H9 j j0 j1 kA => ?_⟩
            have hL9 : H9 L = some (.lst [.int ((everyS.length : Nat) : Int), .int 36]) := kA.get upd_same (k8'.2.ne hL).symm
            obtain ⟨m, hm, m0', m1'⟩ : ∃ m : Int, atI [V.int ((everyS.length : Nat) : Int), V.int 36] j = some (.int m) ∧ 0 < m ∧ m ≤ 95 := by
              have : j = 0 ∨ j = 1 := by omega
              rw [every_len']
              rcases this with q | q <;> rw [q]
              · exact ⟨95, rfl, by decide, by decide⟩
              · exact ⟨36, rfl, by decide, by decide⟩
            refine ⟨L, _, _, _, rfl, rfl, SqL.of hL9, hm, p, _, rfl, m0', by omega, (k9.trans kA).2, fun HA r2 r20 r21 kB => ?_⟩
            obtain ⟨c, e, c1⟩ := every_at r20 (by omega)
            refine ⟨everyS, _, c, rfl, rfl, by decide +kernel, e, ?_⟩
            have okA := (okz.cut none (some at_))
            have okC : ∀ n : Int, TxtN 1 (if n = 0 then (⟨#[]⟩ : Str) else ⟨#[c]⟩) := by
              intro n
              split
              · exact TxtN.none
              · exact TxtN.one c1
            have okC := okC (if decide (0 < more) = true then (1 : Int) else 0)
            have okD := okz.cut (some (at_ + (if decide (more < 2) = true then (1 : Int) else 0))) none
            refine ⟨_, rfl, _, rfl, _, rfl, z, rfl, Nat.le_of_lt (small1000 (by omega)), ?_⟩
            refine ⟨_, rfl, _, rfl, _, _, rfl, rfl, .inr ⟨_, rfl, ?_⟩⟩
            refine ⟨_, _, rfl, rfl, ?_, _, _, rfl, rfl, ?_, ?_⟩
            · split <;> simp
            · exact Nat.le_of_lt (small1000 (by have := okA.1; have := okC.1; omega))
            refine ⟨_, rfl, _, rfl, _, rfl, _, _, rfl, rfl, .inr ⟨_, rfl, ?_⟩⟩
            refine ⟨_, _, rfl, rfl, _, rfl, z, rfl, Nat.le_of_lt (small1000 (by omega)), _, _, rfl, rfl, ?_, ?_⟩
            · have h1 := (okA.app okC).1
              exact Nat.le_of_lt (small1000 (by have := okD.1; omega))
            · exact ⟨_, _, _, _, _, rfl, (k9.trans kA).trans kB, ((okA.app okC).app okD).mono (by decide)⟩
          · exact ⟨_, _, _, _, _, rfl, k5.trans k6, okz.mono (by decide)⟩
        rintro _ H6 ⟨z, _, _, _, _, rfl, k6, okz⟩
        exact ⟨_, rfl, k _ _ k6 (okz.ok (by decide))⟩

theorem ok_law {f : Addr} {fd : FuncData} (F : Fun K "law" "law" s_law f fd) (T : Txt K mg) (D_law_bag : Df P w K mg base "_law_bag" 1 ["_law_script", "_law_at"] (sp_law_bag K)) (D_law_kind_ok : Df P w K mg base "_law_kind_ok" 1 ["_law_thing"] (sp_law_kind_ok K))
    (D_law_name_ok : Df P w K mg base "_law_name_ok" 1 ["_law_thing"] (sp_law_name_ok K)) (D_law_string : Df P w K mg base "_law_string" 2 ["_law_bag_here"] (sp_law_string K)) (D_law_take : Df P w K mg base "_law_take" 1 ["_law_bag_here", "_law_many"] (sp_law_take K))
    (D_law_whole : Df P w K mg base "_law_whole" 1 ["_law_thing"] (sp_law_whole K)) (D_is_kind : Df P w K mg base "is_kind" 1 ["thing"] (sp_is_kind K)) (D_is_name : Df P w K mg base "is_name" 1 ["thing"] (sp_is_name K)) (D_size_of : Df P w K mg base "size_of" 1 ["kind"] (sp_size_of K)) :
    FnOk P w K mg base CX0 3 f fd ["_law_script"] (sp_law K) := by
  refine F.ok sc_law (fun vs H Q E h => ?_) (fun cdv A outer s H vs Q E hr h => ?_)
  · obtain ⟨_, _, rfl, _⟩ := h
    rfl
  · obtain ⟨a, ns, rfl, hS, hlen, k⟩ := h
    refine ⟨_, pss_cons (ps_for PassesOwn.never rfl (pi_range1 (by rfl) T.b_range (pa_cons (pe_callB (call_max2 rfl) (by rfl) T.b_max (by decide +kernel) (pa_cons (pe_int) (pa_cons (pe_callB (call_min2 rfl) (by rfl) T.b_min (by decide +kernel) (pa_cons (pe_int) (pa_cons (pe_callB call_len_seq (by rfl) T.b_len (by decide +kernel) (pa_cons (pv 0) pa_nil)) pa_nil))) pa_nil))) pa_nil)) (pg_name (i := 1) sc_law.nd rfl (Or.inl rfl))
      (pss_cons (ps_set (i := 2) sc_law.nd rfl (Or.inl rfl) (pe_callD D_law_bag (hr.mono (by decide)) (by rfl) (pa_cons (pv 0) (pa_cons (pv 1) pa_nil))))
      (pss_cons (ps_set (i := 3) sc_law.nd rfl (Or.inl rfl) (pe_lst (pa_cons (pe_non) (pa_cons (pe_bl) (pa_cons (pe_int) (pa_cons (pe_un un_neg (pe_int)) (pa_cons (pe_tup (pa_cons (pe_str) pa_nil)) (pa_cons (pe_lst (pa_cons (pe_str) pa_nil)) (pa_cons (pe_str) (pa_cons (pe_str) (pa_cons (pe_str) (pa_cons (pe_tup (pa_cons (pe_str) pa_nil)) (pa_cons (pe_str) pa_nil)))))))))))))
      (pss_cons (ps_set (i := 3) sc_law.nd rfl (Or.inl rfl) (pe_op op_cat (pv 3) (pe_lst (pa_cons (pe_str) (pa_cons (pe_str) (pa_cons (pe_str) (pa_cons (pe_str) pa_nil)))))))
      (pss_one (ps_for PassesOwn.never rfl (pi_range1 (by rfl) T.b_range (pa_cons (pe_int) pa_nil)) (pg_name (i := 4) sc_law.nd rfl (Or.inl rfl))
      (C8.pss_cut (ps_set (i := 5) sc_law.nd rfl (Or.inl rfl) (pe_ifExp (pt_cmpR op_lt (pv 4) (pe_int) (nomark _)) (pe_callD D_law_string (hr.mono (by decide)) (by rfl) (pa_cons (pv 2) pa_nil)) (pe_ix (r := rIxL K) ix_list (pv 3) (pe_callD D_law_take (hr.mono (by decide)) (by rfl) (pa_cons (pv 2) (pa_cons (pe_int) pa_nil))) (fun _ _ => rfl))))
      (pss_cons (ps_set (i := 6) sc_law.nd rfl (Or.inl rfl) (pe_lst (pa_cons (pe_callD D_is_name (hr.mono (by decide)) (by rfl) (pa_cons (pv 5) pa_nil)) (pa_cons (pe_callD D_is_kind (hr.mono (by decide)) (by rfl) (pa_cons (pv 5) pa_nil)) (pa_cons (pe_callD D_is_name (hr.mono (by decide)) (by rfl) (pa_cons (pv 5) pa_nil)) pa_nil)))))
      (pss_cons (ps_set (i := 7) sc_law.nd rfl (Or.inl rfl) (pe_lst (pa_cons (pe_callD D_law_name_ok (hr.mono (by decide)) (by rfl) (pa_cons (pv 5) pa_nil)) (pa_cons (pe_callD D_law_kind_ok (hr.mono (by decide)) (by rfl) (pa_cons (pv 5) pa_nil)) (pa_cons (pe_callD D_law_name_ok (hr.mono (by decide)) (by rfl) (pa_cons (pv 5) pa_nil)) pa_nil)))))
      (pss_cons (ps_if (PW.pt (pw_or (pt_cmpR (op_neD hr.units) (pv 6) (pv 7) (nomark _)) (pw_or1 (pt_not (pt_val (pe_callB (r := rAll K) (cr_all rfl) (by rfl) T.b_all (by decide +kernel) (pa_cons (pe_lc (own := [("_law_one", 8)]) (g := gName 8) rfl sc_law.nd (pi_list (pv 6)) (blkOk_by (N := ["_law_script", "_law_k", "_law_bag_here", "_law_odd", "_law_turn", "_law_thing", "_law_told", "_law_due", "_law_one"]) (sc := defScope s_law) (by decide +kernel)) (fun _ _ _ _ _ => pg_name (i := 8) sc_law.nd rfl (Or.inl rfl)) (fun _ _ _ _ _ => pts_nil) (fun _ _ _ _ _ => pe_callB (r := rIsi K) call_isi (by rfl) T.b_isinstance (by decide +kernel) (pa_cons (pv 8) (pa_cons (pe_bltn (v := .ty "bool") (u := .type "bool") (by rfl) T.b_bool (by decide +kernel) rfl) pa_nil)))) pa_nil)))))))
      (pss_one (ps_ret (pe_bl)))
      (pss_nil))
      (pss_one (ps_if (PW.pt (pw_and (pt_val (pe_ix (r := rIxL K) ix_list (pv 7) (pe_int) (fun _ _ => rfl))) (pw_and1 (PW.pt (pw_or (pt_not (pt_val (pe_callD D_law_whole (hr.mono (by decide)) (by rfl) (pa_cons (pe_callD D_size_of (hr.mono (by decide)) (by rfl) (pa_cons (pv 5) pa_nil)) pa_nil)))) (pw_or1 (pt_cmpR op_ne (pe_callD D_size_of (hr.mono (by decide)) (by rfl) (pa_cons (pv 5) pa_nil)) (pe_callTy call_int_str (by rfl) T.b_int (by decide +kernel) (pa_cons (pe_ix ix_str (pv 5) (pe_un un_neg (pe_int)) (fun _ _ => rfl)) pa_nil)) (nomark _))))))))
      (pss_one (ps_ret (pe_bl)))
      (pss_nil)))))))))))))
      (pss_one (ps_ret (pe_and (pe_cmpR op_isBl (pe_callD D_is_name (hr.mono (by decide)) (by rfl) (pa_cons (pe_str) pa_nil)) (pe_bl) (nomark _)) (pe_and (pe_cmpR op_isBl (pe_callD D_is_name (hr.mono (by decide)) (by rfl) (pa_cons (pe_str) pa_nil)) (pe_bl) (nomark _)) (pe_one (pe_cmpR op_isBl (pe_callD D_is_kind (hr.mono (by decide)) (by rfl) (pa_cons (pe_str) pa_nil)) (pe_bl) (nomark _))))))), ?_⟩
    refine ⟨_, rfl, a, _, rfl, .inl hS, _, _, rfl, _, _, rfl, _, rfl, ?_, ?_, ?_⟩
    · split <;> omega
    · split
      · split <;> omega
      · decide
    refine for_range (lo := 0) (fun i σ' H' => ∃ v1 v2 v3 v4 v5 v6 v7 v8, σ' = [some (.ref a), v1, v2, v3, v4, v5, v6, v7, v8] ∧ SqL K H' a (ns.map V.int)) ⟨_, _, _, _, _, _, _, _, rfl, hS⟩ ?_ ?_
    · rintro i σ' H0 hi ⟨_, _, _, _, _, _, _, _, rfl, hS0⟩
      have hi6 : i ≤ 1000 := by
        have : i < 6 := by
          refine Nat.lt_of_lt_of_le hi ?_
          split
          · split <;> omega
          · decide
        omega
      refine ⟨_, rfl, _, rfl, a, ns, i, by simp, hS0, hi6, by omega, fun H1 p s1 hp b1 => ?_⟩
      refine ⟨_, rfl, (show 1 ≤ sizeLine by decide), fun t1 ht1 => ⟨(show 1 ≤ sizeLine by decide), fun l1 hl1 => ⟨(show 1 ≤ sizeLine by decide), fun t2 ht2 => ⟨(show 11 ≤ sizeLine by decide), fun O0 hO0 => ?_⟩⟩⟩⟩
      refine ⟨_, rfl, (show 4 ≤ sizeLine by decide), fun O1 hO1 => ?_⟩
      refine ⟨O0, O1, _, _, rfl, rfl, (upd_ne (ne_of_none upd_same hO1)).trans upd_same, upd_same, (show 15 ≤ sizeLine by decide), fun O hO => ?_⟩
      refine ⟨_, rfl, by decide, by decide, for_range (lo := 0) (n := 10) (fun j σ' H' => ∃ v1 v4 v5 v6 v7 v8, σ' = [some (.ref a), v1, some (.ref p), some (.ref O), v4, v5, v6, v7, v8] ∧ Kept p H1 H' ∧ Odd p O H') ⟨_, _, _, _, _, _, rfl, ?kO, ?od⟩ ?_ ?_⟩
      case kO => exact ((((((Kept.refl b1).upd ht1).upd hl1).upd ht2).upd hO0).upd hO1).upd hO
      case od =>
        have n1 : p ≠ t1 := b1.ne ht1
        have n2 : p ≠ l1 := ((Kept.refl b1).upd ht1).2.ne hl1
        have n3 : p ≠ t2 := (((Kept.refl b1).upd ht1).upd hl1).2.ne ht2
        have n4 : p ≠ O := ((((((Kept.refl b1).upd ht1).upd hl1).upd ht2).upd hO0).upd hO1).2.ne hO
        have e1 : (upd H1 t1 (.tup [.str "p"])) t1 = some (.tup [.str "p"]) := upd_same
        have e1 := same_upd (o := .lst [.str "p"]) hl1 _ _ e1
        have e2 : (upd (upd H1 t1 (.tup [.str "p"])) l1 (.lst [.str "p"])) l1 = some (.lst [.str "p"]) := upd_same
        have e1 := same_upd (o := .tup [.str "int4"]) ht2 _ _ e1
        have e2 := same_upd (o := .tup [.str "int4"]) ht2 _ _ e2
        have e3 : (upd (upd (upd H1 t1 (.tup [.str "p"])) l1 (.lst [.str "p"])) t2 (.tup [.str "int4"])) t2 = some (.tup [.str "int4"]) := upd_same
        have s4 := ((same_upd hO0).trans (same_upd hO1)).trans (same_upd (o := .lst (oddVs t1 l1 t2)) hO)
        exact ⟨t1, l1, t2, _, _, _, ⟨n4.symm, n1.symm, n2.symm, n3.symm⟩, upd_same, s4 _ _ e1, s4 _ _ e2, s4 _ _ e3⟩
      · rintro j σ' H2 hj ⟨_, _, _, _, _, _, rfl, k2, od2⟩
        refine ⟨fun σ' H' => ∃ v1 v4 v6 v7 v8 x, σ' = [some (.ref a), v1, some (.ref p), some (.ref O), v4, some x, v6, v7, v8] ∧ Kept p H2 H' ∧ Th K H' x, ?_, ?_⟩
        · refine ⟨_, rfl, _, _, rfl, rfl, _, rfl, ite2 (fun _ => ?_) (fun _ => ?_)⟩
          · exact ⟨_, rfl, p, rfl, k2.2, fun H3 z k3 oz => ⟨_, _, _, _, _, _, rfl, k3, th_str oz⟩⟩
          · refine ⟨_, rfl, _, rfl, p, 15, rfl, by decide, by decide, k2.2, fun H3 r r0 r1 k3 => ?_⟩
            obtain ⟨xs, v, e1, e2, e3⟩ := odd_th (K := K) (od2.kept k3) r0 r1
            exact ⟨O, _, _, v, rfl, rfl, SqL.of e1, e2, _, _, _, _, _, _, rfl, k3, e3⟩
        rintro _ H3 ⟨_, _, _, _, _, x, rfl, k3, th⟩
        refine ⟨_, rfl, x, rfl, th, fun H4 s4 => ⟨_, rfl, x, rfl, th.same s4, fun H5 s5 => ⟨_, rfl, x, rfl, (th.same s4).same s5, fun H6 s6 => ⟨(show 3 ≤ sizeLine by decide), fun L hL => ?_⟩⟩⟩⟩
        have sL := ((s4.trans s5).trans s6).trans (same_upd (o := .lst [.bl (nameV x), .bl (kindV x), .bl (nameV x)]) hL)
        have hL' : (upd H6 L (.lst [.bl (nameV x), .bl (kindV x), .bl (nameV x)])) L = some (.lst [.bl (nameV x), .bl (kindV x), .bl (nameV x)]) := upd_same
        generalize upd H6 L (.lst [.bl (nameV x), .bl (kindV x), .bl (nameV x)]) = H7 at sL hL'
        have th7 := th.same sL
        refine ⟨_, rfl, x, rfl, th7, fun H8 s8 => ⟨_, rfl, x, rfl, th7.same s8, fun H9 s9 => ⟨_, rfl, x, rfl, (th7.same s8).same s9, fun HA sA => ⟨(show 3 ≤ sizeLine by decide), fun M hM => ?_⟩⟩⟩⟩
        have sM := ((s8.trans s9).trans sA).trans (same_upd (o := .lst [.bl (nameV x), .bl (kindV x), .bl (nameV x)]) hM)
        have hM' : (upd HA M (.lst [.bl (nameV x), .bl (kindV x), .bl (nameV x)])) M = some (.lst [.bl (nameV x), .bl (kindV x), .bl (nameV x)]) := upd_same
        generalize upd HA M (.lst [.bl (nameV x), .bl (kindV x), .bl (nameV x)]) = HB at sM hM'
        have hLB := sM _ _ hL'
        have thB := th7.same sM
        have kB : Kept p H1 HB := (k2.trans k3).same (sL.trans sM)
        have odB : Odd p O HB := od2.kept (k3.same (sL.trans sM))
        have hd : ∀ (A : Addr), HB A = some (.lst [.bl (nameV x), .bl (kindV x), .bl (nameV x)]) → Dp K HB (.ref A) (.list [.bool (nameV x), .bool (kindV x), .bool (nameV x)]) := fun A h =>
          .lst (SqL.of h) (.cons (.bl _) (.cons (.bl _) (.cons (.bl _) .nil)))
        have he : PyData.eqv (.list [.bool (nameV x), .bool (kindV x), .bool (nameV x)]) (.list [.bool (nameV x), .bool (kindV x), .bool (nameV x)]) = true := by cases nameV x <;> cases kindV x <;> rfl
        refine ⟨_, rfl, _, rfl, _, _, hd L hLB, hd M hM', rfl, rfl, _, rfl, ite2 (fun h => absurd h (by rw [he]; decide)) (fun _ => ?_)⟩
        refine ⟨_, rfl, L, rfl, ⟨_, SqL.of hLB⟩, fun D hD => ?_⟩
        refine lc_list (K := K) (a := L) (xs := [.bl (nameV x), .bl (kindV x), .bl (nameV x)]) (fun i H' => Same HB H' ∧ H' D = some (.lst (List.replicate i (V.bl true)))) ⟨same_upd hD, upd_same⟩ (fun i H' _ ⟨sm, _⟩ => SqL.of (sm _ _ hLB)) ?_ ?_
        · rintro i y H' hy ⟨sm, hD'⟩
          obtain ⟨b, rfl⟩ : ∃ b, y = V.bl b := by
            have := List.mem_of_getElem? hy
            simp at this
            rcases this with rfl | rfl | rfl <;> exact ⟨_, rfl⟩
          have hi3 : i < 3 := (List.getElem?_eq_some_iff.mp hy).1
          refine ⟨rfl, yesT ⟨_, rfl, _, _, _, _, _, rfl, .ty _, .base (.bl b), kit_ty (show _ = some true by decide +kernel), _, hD', ?_, ?_, ?_⟩⟩
          · rw [List.length_replicate]
            exact small1000 (by omega)
          · exact fun b o e => by rw [upd_ne (ne_of_none e hD)]; exact sm b o e
          · rw [upd_same, List.replicate_succ']
        · rintro HC ⟨sm, hD'⟩
          refine ⟨D, [true, true, true], rfl, SqL.of hD', _, rfl, iteF ?_⟩
          have kC := kB.same sm
          have odC := odB.kept ((Kept.refl kB.2).same sm)
          have thC := thB.same sm
          refine ⟨_, rfl, M, _, _, _, rfl, rfl, SqL.of (sm _ _ hM'), rfl, _, rfl, ite2 (fun hk => ?_) (fun _ => ?_)⟩
          · cases x with
            | str z =>
              obtain ⟨c, hc, hs⟩ := kindB_last hk
              obtain ⟨_, _, _, _, _, hz⟩ := thC
              have oz := hz z rfl
              refine ⟨_, rfl, z, c, rfl, oz, hc, hs, _, rfl, th_int _, fun HD sD => ⟨_, rfl, iteF ?_⟩⟩
              refine ⟨_, rfl, z, c, rfl, oz, hc, hs, _, rfl, _, rfl, z, _, c, rfl, rfl, Nat.le_of_lt (small1000 oz.1), atI_neg1 hc, _, _, rfl, siz_text hs, (show 1 ≤ 640 by decide), rfl, _, rfl, iteNS rfl ?_⟩
              exact ⟨_, _, _, _, _, _, rfl, kC.same sD, odC.kept ((Kept.refl kC.2).same sD)⟩
            | non => cases hk
            | bl _ => cases hk
            | int _ => cases hk
            | byt _ => cases hk
            | flt _ => cases hk
            | ref _ => cases hk
            | ty _ => cases hk
          · exact iteF ⟨_, _, _, _, _, _, rfl, kC, odC⟩
      · rintro σ' H2 ⟨_, _, _, _, _, _, rfl, k2, od2⟩
        exact ⟨_, _, _, _, _, _, _, _, rfl, Kept.seq0 hS0 hp s1 k2⟩
    · rintro σ' H1 ⟨_, _, _, _, _, _, _, _, rfl, hS1⟩
      refine ⟨_, rfl, th_str (txt_ok (by decide +kernel) (by decide +kernel)), fun H2 s2 => ⟨_, _, rfl, rfl, _, rfl, ite2 (fun _ => ?_) (fun h => absurd (by decide +kernel) h)⟩⟩
      refine ⟨_, rfl, th_str (txt_ok (by decide +kernel) (by decide +kernel)), fun H3 s3 => ⟨_, _, rfl, rfl, _, rfl, ite2 (fun _ => ?_) (fun h => absurd (by decide +kernel) h)⟩⟩
      exact ⟨_, rfl, th_str (txt_ok (by decide +kernel) (by decide +kernel)), fun H4 s4 => ⟨_, _, rfl, rfl, q_eq (congrArg V.bl (by decide +kernel)) (k H4)⟩⟩

end
theorem all_mk {l : PySem.W.OpenLaw} {w : World} {K : PySem.W.Frag} {h : Heap} {mg : Str → Option Value} {fa : Addr} (X : K.In h) (G : h.Ns mainGlobals mg) (hfa : mg "law" = some (.ref fa))
    {f0 : Addr} {od0 an0 : Option Addr} {sl0 : Array (Option Value)} {oc0 kV0 dc0 pm0 cd0 ct0 : Value} {f1 : Addr} {od1 an1 : Option Addr} {sl1 : Array (Option Value)} {oc1 kV1 dc1 pm1 cd1 ct1 : Value} {f2 : Addr} {od2 an2 : Option Addr} {sl2 : Array (Option Value)} {oc2 kV2 dc2 pm2 cd2 ct2 : Value} {f3 : Addr} {od3 an3 : Option Addr} {sl3 : Array (Option Value)} {oc3 kV3 dc3 pm3 cd3 ct3 : Value} {f4 : Addr} {od4 an4 : Option Addr} {sl4 : Array (Option Value)} {oc4 kV4 dc4 pm4 cd4 ct4 : Value} {f5 : Addr} {od5 an5 : Option Addr} {sl5 : Array (Option Value)} {oc5 kV5 dc5 pm5 cd5 ct5 : Value} {f6 : Addr} {od6 an6 : Option Addr} {sl6 : Array (Option Value)} {oc6 kV6 dc6 pm6 cd6 ct6 : Value} {f7 : Addr} {od7 an7 : Option Addr} {sl7 : Array (Option Value)} {oc7 kV7 dc7 pm7 cd7 ct7 : Value} {f8 : Addr} {od8 an8 : Option Addr} {sl8 : Array (Option Value)} {oc8 kV8 dc8 pm8 cd8 ct8 : Value} {f9 : Addr} {od9 an9 : Option Addr} {sl9 : Array (Option Value)} {oc9 kV9 dc9 pm9 cd9 ct9 : Value} {t_DIGITS : Tok} {t_LETTERS : Tok} {t_SIZES : Tok}
    (a0 : PySem.W.nsIn K mainGlobals "is_name" = some (some (.ref f0)))
    (l0 : K.lookup f0 = some ⟨oc0, od0, .func (PySem.W.fnOf "is_name" "is_name" (defArgs s_is_name) (defBody s_is_name) (defScope s_is_name) .none kV0 dc0 pm0 an0 cd0 ct0), sl0⟩)
    (c0 : PySem.W.codeIn K cd0 "is_name" = true)
    (k0 : PySem.W.keepIn K (.ref f0) = true)
    (a1 : PySem.W.nsIn K mainGlobals "is_kind" = some (some (.ref f1)))
    (l1 : K.lookup f1 = some ⟨oc1, od1, .func (PySem.W.fnOf "is_kind" "is_kind" (defArgs s_is_kind) (defBody s_is_kind) (defScope s_is_kind) .none kV1 dc1 pm1 an1 cd1 ct1), sl1⟩)
    (c1 : PySem.W.codeIn K cd1 "is_kind" = true)
    (k1 : PySem.W.keepIn K (.ref f1) = true)
    (a2 : PySem.W.nsIn K mainGlobals "size_of" = some (some (.ref f2)))
    (l2 : K.lookup f2 = some ⟨oc2, od2, .func (PySem.W.fnOf "size_of" "size_of" (defArgs s_size_of) (defBody s_size_of) (defScope s_size_of) .none kV2 dc2 pm2 an2 cd2 ct2), sl2⟩)
    (c2 : PySem.W.codeIn K cd2 "size_of" = true)
    (k2 : PySem.W.keepIn K (.ref f2) = true)
    (a3 : PySem.W.nsIn K mainGlobals "_law_bag" = some (some (.ref f3)))
    (l3 : K.lookup f3 = some ⟨oc3, od3, .func (PySem.W.fnOf "_law_bag" "_law_bag" (defArgs s_law_bag) (defBody s_law_bag) (defScope s_law_bag) .none kV3 dc3 pm3 an3 cd3 ct3), sl3⟩)
    (c3 : PySem.W.codeIn K cd3 "_law_bag" = true)
    (k3 : PySem.W.keepIn K (.ref f3) = true)
    (a4 : PySem.W.nsIn K mainGlobals "_law_take" = some (some (.ref f4)))
    (l4 : K.lookup f4 = some ⟨oc4, od4, .func (PySem.W.fnOf "_law_take" "_law_take" (defArgs s_law_take) (defBody s_law_take) (defScope s_law_take) .none kV4 dc4 pm4 an4 cd4 ct4), sl4⟩)
    (c4 : PySem.W.codeIn K cd4 "_law_take" = true)
    (k4 : PySem.W.keepIn K (.ref f4) = true)
    (a5 : PySem.W.nsIn K mainGlobals "_law_name_ok" = some (some (.ref f5)))
    (l5 : K.lookup f5 = some ⟨oc5, od5, .func (PySem.W.fnOf "_law_name_ok" "_law_name_ok" (defArgs s_law_name_ok) (defBody s_law_name_ok) (defScope s_law_name_ok) .none kV5 dc5 pm5 an5 cd5 ct5), sl5⟩)
    (c5 : PySem.W.codeIn K cd5 "_law_name_ok" = true)
    (k5 : PySem.W.keepIn K (.ref f5) = true)
    (a6 : PySem.W.nsIn K mainGlobals "_law_kind_ok" = some (some (.ref f6)))
    (l6 : K.lookup f6 = some ⟨oc6, od6, .func (PySem.W.fnOf "_law_kind_ok" "_law_kind_ok" (defArgs s_law_kind_ok) (defBody s_law_kind_ok) (defScope s_law_kind_ok) .none kV6 dc6 pm6 an6 cd6 ct6), sl6⟩)
    (c6 : PySem.W.codeIn K cd6 "_law_kind_ok" = true)
    (k6 : PySem.W.keepIn K (.ref f6) = true)
    (a7 : PySem.W.nsIn K mainGlobals "_law_whole" = some (some (.ref f7)))
    (l7 : K.lookup f7 = some ⟨oc7, od7, .func (PySem.W.fnOf "_law_whole" "_law_whole" (defArgs s_law_whole) (defBody s_law_whole) (defScope s_law_whole) .none kV7 dc7 pm7 an7 cd7 ct7), sl7⟩)
    (c7 : PySem.W.codeIn K cd7 "_law_whole" = true)
    (k7 : PySem.W.keepIn K (.ref f7) = true)
    (a8 : PySem.W.nsIn K mainGlobals "_law_string" = some (some (.ref f8)))
    (l8 : K.lookup f8 = some ⟨oc8, od8, .func (PySem.W.fnOf "_law_string" "_law_string" (defArgs s_law_string) (defBody s_law_string) (defScope s_law_string) .none kV8 dc8 pm8 an8 cd8 ct8), sl8⟩)
    (c8 : PySem.W.codeIn K cd8 "_law_string" = true)
    (k8 : PySem.W.keepIn K (.ref f8) = true)
    (a9 : PySem.W.nsIn K mainGlobals "law" = some (some (.ref f9)))
    (l9 : K.lookup f9 = some ⟨oc9, od9, .func (PySem.W.fnOf "law" "law" (defArgs s_law) (defBody s_law) (defScope s_law) .none kV9 dc9 pm9 an9 cd9 ct9), sl9⟩)
    (c9 : PySem.W.codeIn K cd9 "law" = true)
    (k9 : PySem.W.keepIn K (.ref f9) = true)
    (z_abs : PySem.W.nsIn K mainGlobals "abs" = some none)
    (z_all : PySem.W.nsIn K mainGlobals "all" = some none)
    (z_bool : PySem.W.nsIn K mainGlobals "bool" = some none)
    (z_int : PySem.W.nsIn K mainGlobals "int" = some none)
    (z_isinstance : PySem.W.nsIn K mainGlobals "isinstance" = some none)
    (z_len : PySem.W.nsIn K mainGlobals "len" = some none)
    (z_max : PySem.W.nsIn K mainGlobals "max" = some none)
    (z_min : PySem.W.nsIn K mainGlobals "min" = some none)
    (z_range : PySem.W.nsIn K mainGlobals "range" = some none)
    (z_str : PySem.W.nsIn K mainGlobals "str" = some none)
    (y_DIGITS : PySem.W.nsIn K mainGlobals "DIGITS" = some (some (.str "0123456789" t_DIGITS)))
    (y_LETTERS : PySem.W.nsIn K mainGlobals "LETTERS" = some (some (.str "abcdefghijklmnopqrstuvwxyz" t_LETTERS)))
    (y_SIZES : PySem.W.nsIn K mainGlobals "SIZES" = some (some (.str "1234" t_SIZES))) :
    ∃ fd : FuncData, (∀ (s : Shared) (v : Value), BindsTo s fd ⟨[v], []⟩ [("_law_script", v)]) ∧ ∀ base : Heap, K.In base → base.Ns mainGlobals mg → FnOk l.prog w K mg base CX0 3 fa fd ["_law_script"] (sp_law K) := by
  have e := hfa.symm.trans (PySem.W.mg_of X G a9)
  cases e
  have T : Txt K mg := ⟨PySem.W.mg_none_of X G z_abs, PySem.W.mg_none_of X G z_all, PySem.W.mg_none_of X G z_bool, PySem.W.mg_none_of X G z_int, PySem.W.mg_none_of X G z_isinstance, PySem.W.mg_none_of X G z_len, PySem.W.mg_none_of X G z_max, PySem.W.mg_none_of X G z_min, PySem.W.mg_none_of X G z_range, PySem.W.mg_none_of X G z_str, ⟨_, PySem.W.mg_of X G y_DIGITS, ⟨_, rfl⟩⟩, ⟨_, PySem.W.mg_of X G y_LETTERS, ⟨_, rfl⟩⟩, ⟨_, PySem.W.mg_of X G y_SIZES, ⟨_, rfl⟩⟩⟩
  have F0 := fun_mk (st := s_is_name) l0 c0 k0
  have b0 := F0.binds (ps := ["thing"]) fun _ _ _ _ _ _ us hl => match us, hl with | [_], _ => rfl
  have m0 := PySem.W.mg_of X G a0
  have F1 := fun_mk (st := s_is_kind) l1 c1 k1
  have b1 := F1.binds (ps := ["thing"]) fun _ _ _ _ _ _ us hl => match us, hl with | [_], _ => rfl
  have m1 := PySem.W.mg_of X G a1
  have F2 := fun_mk (st := s_size_of) l2 c2 k2
  have b2 := F2.binds (ps := ["kind"]) fun _ _ _ _ _ _ us hl => match us, hl with | [_], _ => rfl
  have m2 := PySem.W.mg_of X G a2
  have F3 := fun_mk (st := s_law_bag) l3 c3 k3
  have b3 := F3.binds (ps := ["_law_script", "_law_at"]) fun _ _ _ _ _ _ us hl => match us, hl with | [_, _], _ => rfl
  have m3 := PySem.W.mg_of X G a3
  have F4 := fun_mk (st := s_law_take) l4 c4 k4
  have b4 := F4.binds (ps := ["_law_bag_here", "_law_many"]) fun _ _ _ _ _ _ us hl => match us, hl with | [_, _], _ => rfl
  have m4 := PySem.W.mg_of X G a4
  have F5 := fun_mk (st := s_law_name_ok) l5 c5 k5
  have b5 := F5.binds (ps := ["_law_thing"]) fun _ _ _ _ _ _ us hl => match us, hl with | [_], _ => rfl
  have m5 := PySem.W.mg_of X G a5
  have F6 := fun_mk (st := s_law_kind_ok) l6 c6 k6
  have b6 := F6.binds (ps := ["_law_thing"]) fun _ _ _ _ _ _ us hl => match us, hl with | [_], _ => rfl
  have m6 := PySem.W.mg_of X G a6
  have F7 := fun_mk (st := s_law_whole) l7 c7 k7
  have b7 := F7.binds (ps := ["_law_thing"]) fun _ _ _ _ _ _ us hl => match us, hl with | [_], _ => rfl
  have m7 := PySem.W.mg_of X G a7
  have F8 := fun_mk (st := s_law_string) l8 c8 k8
  have b8 := F8.binds (ps := ["_law_bag_here"]) fun _ _ _ _ _ _ us hl => match us, hl with | [_], _ => rfl
  have m8 := PySem.W.mg_of X G a8
  have F9 := fun_mk (st := s_law) l9 c9 k9
  have b9 := F9.binds (ps := ["_law_script"]) fun _ _ _ _ _ _ us hl => match us, hl with | [_], _ => rfl
  have m9 := PySem.W.mg_of X G a9
  refine ⟨PySem.W.fnOf "law" "law" (defArgs s_law) (defBody s_law) (defScope s_law) .none kV9 dc9 pm9 an9 cd9 ct9, fun s v => .of_eq rfl, fun base _ _ => ?_⟩
  have D_is_name : Df l.prog w K mg base "is_name" 1 ["thing"] (sp_is_name K) := ⟨_, _, ok_is_name F0 T , m0, k0, b0⟩
  have D_is_kind : Df l.prog w K mg base "is_kind" 1 ["thing"] (sp_is_kind K) := ⟨_, _, ok_is_kind F1 T , m1, k1, b1⟩
  have D_size_of : Df l.prog w K mg base "size_of" 1 ["kind"] (sp_size_of K) := ⟨_, _, ok_size_of F2 T , m2, k2, b2⟩
  have D_law_bag : Df l.prog w K mg base "_law_bag" 1 ["_law_script", "_law_at"] (sp_law_bag K) := ⟨_, _, ok_law_bag F3 T , m3, k3, b3⟩
  have D_law_take : Df l.prog w K mg base "_law_take" 1 ["_law_bag_here", "_law_many"] (sp_law_take K) := ⟨_, _, ok_law_take F4 T , m4, k4, b4⟩
  have D_law_name_ok : Df l.prog w K mg base "_law_name_ok" 1 ["_law_thing"] (sp_law_name_ok K) := ⟨_, _, ok_law_name_ok F5 T , m5, k5, b5⟩
  have D_law_kind_ok : Df l.prog w K mg base "_law_kind_ok" 1 ["_law_thing"] (sp_law_kind_ok K) := ⟨_, _, ok_law_kind_ok F6 T , m6, k6, b6⟩
  have D_law_whole : Df l.prog w K mg base "_law_whole" 1 ["_law_thing"] (sp_law_whole K) := ⟨_, _, ok_law_whole F7 T , m7, k7, b7⟩
  have D_law_string : Df l.prog w K mg base "_law_string" 2 ["_law_bag_here"] (sp_law_string K) := ⟨_, _, ok_law_string F8 T D_law_take, m8, k8, b8⟩
  exact ok_law F9 T D_law_bag D_law_kind_ok D_law_name_ok D_law_string D_law_take D_law_whole D_is_kind D_is_name D_size_of
theorem walk {l : PySem.W.OpenLaw} {q : Program} {loose : List Str} {XP : (Str → Option Value) → Heap → Prop} {YP : World → Heap → Prop} {d : DefRec} {K : Params → PySem.W.Frag} (hn : l.most = some 63) (hdf : d.params.defaults = [])
    (hY : ∀ (w : World) (h : Heap), YP w h → (K w.params).In h)
    (F : ∀ (w : World) (mg : Str → Option Value) (fa : Addr) (h : Heap), (K w.params).In h → h.Ns mainGlobals mg → mg d.name = some (.ref fa) →
      ∃ fd : FuncData, (∀ (s : Shared) (u : Value), BindsTo s fd ⟨[u], []⟩ [("_law_script", u)]) ∧ ∀ base : Heap, (K w.params).In base → base.Ns mainGlobals mg → FnOk l.prog w (K w.params) mg base CX0 3 fa fd ["_law_script"] (sp_law (K w.params))) :
    PySem.W.WalkO q loose XP YP l.row.toRowW d [] (fun f vs => PySem.call f vs) :=
  L2.walk_of (n := 63) (k := 3) (x := "_law_script") (CX := fun _ => CX0) (sp := fun w => sp_law (K w.params)) hn (by decide) hdf ⟨rfl, by decide, by decide⟩ hY F (fun _ _ a ns hl _ hS => ⟨a, ns, rfl, hS, hl, fun _ => rfl⟩) fun _ _ _ _ _ z => z

end Toy
open PySem PySem.W PyProof.Rows in
set_option maxRecDepth 100000 in
set_option maxHeartbeats 0 in
theorem PySem.Challenge.cw_lastkind_k01_names_and_kinds_holds : PySem.Challenge.rw_lastkind_k01_names_and_kinds.Holds := by
  w_on; o_law; k_head; (case hw => w_witness2)
  k_fill
  refine Toy.walk (l := PySem.Challenge.rw_lastkind_k01_names_and_kinds) rfl rfl (fun w h Y => PySem.W.kIn_of Y) ?F
  case F =>
    intro w mg fa h KX G hmg
    refine' Toy.all_mk KX G hmg ?a0 ?l0 ?c0 ?k0 ?a1 ?l1 ?c1 ?k1 ?a2 ?l2 ?c2 ?k2 ?a3 ?l3 ?c3 ?k3 ?a4 ?l4 ?c4 ?k4 ?a5 ?l5 ?c5 ?k5 ?a6 ?l6 ?c6 ?k6 ?a7 ?l7 ?c7 ?k7 ?a8 ?l8 ?c8 ?k8 ?a9 ?l9 ?c9 ?k9 ?z_abs ?z_all ?z_bool ?z_int ?z_isinstance ?z_len ?z_max ?z_min ?z_range ?z_str ?y_DIGITS ?y_LETTERS ?y_SIZES
    (case a0 => k_is)
    (case l0 => k_is)
    (case c0 => k_is)
    (case k0 => k_is)
    (case a1 => k_is)
    (case l1 => k_is)
    (case c1 => k_is)
    (case k1 => k_is)
    (case a2 => k_is)
    (case l2 => k_is)
    (case c2 => k_is)
    (case k2 => k_is)
    (case a3 => k_is)
    (case l3 => k_is)
    (case c3 => k_is)
    (case k3 => k_is)
    (case a4 => k_is)
    (case l4 => k_is)
    (case c4 => k_is)
    (case k4 => k_is)
    (case a5 => k_is)
    (case l5 => k_is)
    (case c5 => k_is)
    (case k5 => k_is)
    (case a6 => k_is)
    (case l6 => k_is)
    (case c6 => k_is)
    (case k6 => k_is)
    (case a7 => k_is)
    (case l7 => k_is)
    (case c7 => k_is)
    (case k7 => k_is)
    (case a8 => k_is)
    (case l8 => k_is)
    (case c8 => k_is)
    (case k8 => k_is)
    (case a9 => k_is)
    (case l9 => k_is)
    (case c9 => k_is)
    (case k9 => k_is)
    (case z_abs => k_is)
    (case z_all => k_is)
    (case z_bool => k_is)
    (case z_int => k_is)
    (case z_isinstance => k_is)
    (case z_len => k_is)
    (case z_max => k_is)
    (case z_min => k_is)
    (case z_range => k_is)
    (case z_str => k_is)
    (case y_DIGITS => k_is)
    (case y_LETTERS => k_is)
    (case y_SIZES => k_is)

