import PyProof.Rows.All
import Wide.All
import OpenK.AllK
import Wide.FinOn
import PyProof.EqAt
import PyProof.EqKinds
import PyProof.TupleCall
import HandS.Base
import HandS.Call
import HandS.List
import HandS.Comp
import HandS.Ends
import HandS.Words
import HandS.Walk
import HandS.Dict
import HandS.TupAny
import HandS.Style
import HandS.Exc
import HandS.WordsExc
import PyProof.ReprRoads
import HandS.TryMany
import HandS.ExcField
import HandS.ExcInit
import HandS.MakeKwOnly
import HandS.IsInst
import HandS.Text
import HandS.Iter
import HandS.Zip
import HandS.More
import KE.GoesEnum
import KE.GoesZip
import KE.GoesMore
import PyProof.ListStr
import HandS.Defaults
import HandS.Strs
import PyProof.Rows.RegFStrParts
import HandS.Small
import PyProof.P3Eq
import PySem.Challenge.RW_partedlanes_k01_exceptions
import PyProof.NeData
import HandS.Star
import HandS.HotCalls
import HandS.SuiteRaise
import KE.KTryMore
import HandS.SetFor
import HandS.DictEq
import HandS.DeepEq
import HandS.DictComp
import PyProof.RulesRaise
import PyProof.FactsTree
import PyProof.ExcClass
import PyProof.InstStoreFacts
import KE.KExcIs
import HandS.ExcValue
import PyProof.ExcBaseAll.OverflowError
import PyProof.ExcBaseAll.LookupError
import PyProof.ExcBaseAll.RuntimeError
import KE.KOpsOwn
import PyProof.ListMulRight
import PyProof.FactsAll.bool
import PyProof.MakeMany
import PyProof.RaisesMany
import HandS.ClsMeth
import HandS.TupMul
import PyProof.NeKinds
import HandS.DictTup
import KE.DatumOrd
import HandS.SortKw
import HandS.Sort
import HandS.Conv
import HandS.FStr
import HandS.ReHeld
import PyProof.Rows.SeqMore
set_option Elab.async false
set_option linter.all false
set_option maxRecDepth 100000
set_option maxHeartbeats 4000000
namespace XX
open PySem PySem.Spec PyProof.Rows L2

/-- a def that stands under its name: its promise sp, kept at level k -/
structure FnC (P : Program) (w : World) (K : PySem.W.Frag) (mg : Str → Option Value) (base : Heap) (CX : CXT) (k : Nat) (x : Str) (ps : List Str) (sp : Sp) : Prop where
  ex : ∃ (f : Addr) (fd : FuncData), FnOk P w K mg base CX k f fd ps sp ∧ mg x = some (.ref f) ∧ PySem.W.keepIn K (.ref f) = true ∧ Binds K fd ps []
/-- a def of the text under its name -/
structure Def (K : PySem.W.Frag) (mg : Str → Option Value) (x : Str) (st : Stmt) (ps : List Str) : Prop where
  ex : ∃ (f : Addr) (fd : FuncData), Fun K x x st f fd ∧ mg x = some (.ref f) ∧ Binds K fd ps []
section
variable {P : Program} {w : World} {K : PySem.W.Frag} {mg : Str → Option Value} {base : Heap}
theorem Def.ok {x : Str} {st : Stmt} {N ps : List Str} {k : Nat} {sp : Sp} (D : Def K mg x st ps) (S : FnScope N ps (defScope st)) (len : ∀ vs H Q E, sp vs H Q E → vs.length = ps.length)
    (hbody : ∀ (f : Addr) (cdv : Value) (A : Around) (outer : List Env) (s : Shared) (H : Hp) (vs : List V) (Q : VK) (E : XK), Room k (A.deeper (envOfC x (defScope st) s.heap.objs.size f cdv)) → sp vs H Q E →
      ∃ t, PSs (cxOf CX0 P w K mg base N x (defScope st) f cdv A outer s H E).nox (defBody st) t ∧ t { nx := fun _ H' => Q .non H', rt := Q } (start N vs) H) : FnC P w K mg base CX0 (k + 1) x ps sp := by
  obtain ⟨f, fd, F, hm, hb⟩ := D.ex
  exact ⟨f, fd, F.ok S len (hbody f), hm, F.kp, hb⟩
theorem FnC.mono {CX : CXT} {j k : Nat} {x : Str} {ps : List Str} {sp : Sp} (c : FnC P w K mg base CX j x ps sp) (h : j ≤ k) : FnC P w K mg base CX k x ps sp := by
  obtain ⟨f, fd, F, r⟩ := c.ex
  exact ⟨f, fd, F.mono h, r⟩
end
section
variable {X : Cx} {k : Nat} {x : Str} {ps : List Str} {sp : Sp} {p pos : Pos} {e : Expr} {es : List Expr} {t : TA}
theorem pe_c (c : FnC X.prog X.w X.K X.mg X.base CX0 k x ps sp) (hr : Room k X.A) (hg : Gl X x) (ha : PA X (e :: es) t) (hdb : (x == ("__debug__" : Str)) = false := by decide)
    (he : starEach (e :: es) X.env = (false, eval e X.env) :: starEach es X.env := by rfl) (hpl : (backTo pos (starEach es X.env)).any (·.1) = false := by rfl) :
    PE X (.Call (.Name x p) (e :: es) [] pos) (tCall sp [] E0 t) := by
  obtain ⟨f, fd, F, hm, hk, hb⟩ := c.ex
  exact pe_call F hr hg hm hk hb .nil pass0 ha hdb he hpl
end
/-- how a def under its name is had from what the head tells -/
theorem def_mk {K : PySem.W.Frag} {h : Heap} {mg : Str → Option Value} {f : Addr} {x : Str} {st : Stmt} {ps : List Str} {oc : Value} {od an : Option Addr} {osl : Array (Option Value)} {kV dc pm cd ct : Value} (X : K.In h) (G : h.Ns mainGlobals mg)
    (a : PySem.W.nsIn K mainGlobals x = some (some (.ref f))) (l : K.lookup f = some ⟨oc, od, .func (PySem.W.fnOf x x (defArgs st) (defBody st) (defScope st) .none kV dc pm an cd ct), osl⟩) (c : PySem.W.codeIn K cd x = true) (kp : PySem.W.keepIn K (.ref f) = true)
    (h : ∀ (kV doc pm : Value) (an : Option Addr) (cdv ct : Value) (us : List Value), us.length = ps.length → bindArgs (PySem.W.fnOf x x (defArgs st) (defBody st) (defScope st) .none kV doc pm an cdv ct) ⟨us, []⟩ = pure (ps.zip us)) : Def K mg x st ps :=
  ⟨f, _, fun_mk l c kp, PySem.W.mg_of X G a, (fun_mk l c kp).binds h⟩
end XX

set_option maxRecDepth 100000
set_option maxHeartbeats 4000000
namespace XX
open PySem PySem.Spec PyProof.Rows L2
/-- a for over J, behind the reading of what it walks -/
def LoopW (J : It) (g : TG) (tb : TS) (D : Ends) (σ : L2.St) (H1 : Hp) : Prop := tFor (fun _ H R => R J H) g tb D σ H1
theorem tFor_eq (wi : TI) (g : TG) (tb : TS) (D : Ends) (σ : L2.St) (H : Hp) : tFor wi g tb D σ H = wi σ H fun J H1 => LoopW J g tb D σ H1 := rfl
theorem loop_it {J : It} {n : Nat} {G : Hp → Prop} {Y : Nat → Hp → V → Hp → Prop} (w : Walk J n G Y) {g : TG} {tb : TS} {D : Ends} {σ : L2.St} {H : Hp} (Pv : Nat → L2.St → Hp → Prop) (h0 : Pv 0 σ H) (hG : ∀ i σ H, i ≤ n → Pv i σ H → G H)
    (hs : ∀ i x σ H H', i < n → Pv i σ H → Y i H x H' → g x σ H' fun σ2 H2 => tb { nx := Pv (i + 1), rt := D.rt, bk := D.nx, ct := Pv (i + 1) } σ2 H2) (hd : ∀ σ H, Pv n σ H → D.nx σ H) : LoopW J g tb D σ H := for_it w Pv h0 hG hs hd
/-- a comprehension over J -/
def LcW (J : It) (g : TG) (tt : TT) (te : TE) (vs : List Nat) (σ : L2.St) (H1 : Hp) (Q : VK) : Prop := tLc (fun _ H R => R J H) g tt te vs σ H1 Q
theorem tLc_eq (wi : TI) (g : TG) (tt : TT) (te : TE) (vs : List Nat) (σ : L2.St) (H : Hp) (Q : VK) : tLc wi g tt te vs σ H Q = wi σ H fun J H1 => LcW J g tt te vs σ H1 Q := rfl
/-- what a turn of a comprehension gives -/
def LcEnd (te : TE) (D : Addr) (Nx : Hp → Prop) (σ : L2.St) (b : Bool) (H : Hp) : Prop := if b = true then te σ H (fun y H' => ∃ acc, H' D = some (HO.lst acc) ∧ acc.length < sizeLine ∧ Nx (upd H' D (HO.lst (acc ++ [y])))) else Nx H
theorem lcw_it {J : It} {n : Nat} {G : Hp → Prop} {Y : Nat → Hp → V → Hp → Prop} (w : Walk J n G Y) {g : TG} {tt : TT} {te : TE} {vs : List Nat} {σ : L2.St} {H1 : Hp} {Q : VK} (Pv : Addr → Nat → Hp → Prop) (h0 : ∀ D, H1 D = none → Pv D 0 (upd H1 D (HO.lst []))) (hG : ∀ D i H, i ≤ n → Pv D i H → G H)
    (hs : ∀ D i x H H', H1 D = none → i < n → Pv D i H → Y i H x H' → g x (wipe σ vs) H' fun σ2 H2 => wipe σ2 vs = wipe σ vs ∧ tt σ2 H2 fun b H3 => LcEnd te D (Pv D (i + 1)) σ2 b H3) (hd : ∀ D H, H1 D = none → Pv D n H → Q (.ref D) H) : LcW J g tt te vs σ H1 Q :=
  fun D hD => lc_it w (Pv D) (h0 D hD) (hG D) (fun i x H H' hi hp hy => hs D i x H H' hD hi hp hy) (fun H hp => hd D H hD hp)
section
variable {CX : CXT} {P : Program} {w : World} {K : PySem.W.Frag} {mg : Str → Option Value} {base : Heap} {N : List Str} {qual : Str} {scope : Scope} {f : Addr} {cd : Value} {A : Around} {outer : List Env} {s : Shared} {H : Hp} {E : XK}
theorem cxOf_K : (cxOf CX P w K mg base N qual scope f cd A outer s H E).K = K := rfl
theorem cxOf_noxK : (cxOf CX P w K mg base N qual scope f cd A outer s H E).nox.K = K := rfl
end
theorem bool_ite_true {α : Sort _} (a b : α) : (if true = true then a else b) = a := if_pos rfl
theorem bool_ite_false {α : Sort _} (a b : α) : (if false = true then a else b) = b := if_neg (by decide)
theorem dec_ite {α : Sort _} {c : Prop} [Decidable c] (a b : α) : (if decide c = true then a else b) = if c then a else b := by
  by_cases h : c <;> simp [h]
theorem ndec_ite {α : Sort _} {c : Prop} [Decidable c] (a b : α) : (if (!decide c) = true then a else b) = if c then b else a := by
  by_cases h : c <;> simp [h]
theorem exists_cons_nil {p : V → V → Prop} {a b : V} : (∃ v w, [a, b] = [v, w] ∧ p v w) = p a b := by
  apply propext
  constructor
  · rintro ⟨v, w, e, h⟩
    cases e
    exact h
  · intro h
    exact ⟨a, b, rfl, h⟩
end XX

set_option maxRecDepth 100000
set_option maxHeartbeats 4000000
namespace XX
open PySem PySem.Spec PyProof.Rows L2
/-! ### a text times a number -/
def strRep (z : Str) (k : Int) : Str := if k < 1 then Str.empty else if (k == 1 || z.length == 0) = true then z else ⟨(List.replicate k.toNat z.cps).foldl (· ++ ·) #[]⟩
theorem repl_size (z : Array Nat) : ∀ (k : Nat) (a : Array Nat), ((List.replicate k z).foldl (· ++ ·) a).size = a.size + k * z.size
  | 0, a => by simp
  | k + 1, a => by
    rw [List.replicate_succ, List.foldl_cons, repl_size z k, Array.size_append, Nat.succ_mul]
    omega
theorem strRep_length (z : Str) (k : Int) : (strRep z k).length = k.toNat * z.length := by
  unfold strRep
  by_cases h : k < 1
  · rw [if_pos h]
    have e : k.toNat = 0 := by omega
    rw [e, Nat.zero_mul]
    rfl
  · rw [if_neg h]
    by_cases c : (k == 1 || z.length == 0) = true
    · rw [if_pos c]
      rw [Bool.or_eq_true] at c
      rcases c with c | c
      · have e : k = 1 := eq_of_beq c
        rw [e]
        simp
      · have e : z.length = 0 := eq_of_beq c
        rw [e, Nat.mul_zero]
    · rw [if_neg c]
      show (List.foldl (· ++ ·) #[] (List.replicate k.toNat z.cps)).size = _
      rw [repl_size]
      show 0 + k.toNat * z.cps.size = k.toNat * z.cps.size
      omega
def rMulS : R2 := fun x y H Q => ∃ (z : Str) (k : Int), x = .str z ∧ y = .int k ∧ 0 ≤ k ∧ k ≤ 100000 ∧ z.length ≤ 100 ∧ Q (.str (strRep z k)) H
theorem op_mulS {X : Cx} : OpR X (binaryOp .Mult) rMulS := by
  intro pins s σ H x y v u Q I rx ry h
  obtain ⟨z, k, rfl, rfl, h0, h1, h2, q⟩ := h
  obtain ⟨t1, rfl⟩ := (show ∃ t, v = Value.str z t from rx)
  obtain ⟨t2, rfl⟩ := (show ∃ t, u = Value.int k t from ry)
  have hmul : z.length * k.toNat ≤ 10000000 := by
    have : z.length * k.toNat ≤ 100 * 100000 := Nat.mul_le_mul h2 (by omega)
    omega
  have hlen : Builtin.Str.tooLong (z.length * k.toNat) = false := by
    unfold Builtin.Str.tooLong
    have := sizeLine_eq
    simp
    omega
  refine PySem.P.mul_str ?_ (fun hk1 hc => ?_) (fun _ _ => hlen) ?_
  · have a1 : ¬ k < -(2 ^ 63 : Int) := by omega
    have a2 : ¬ k ≥ 2 ^ 63 := by omega
    rw [decide_eq_false a1, decide_eq_false a2]
    rfl
  · have hk0 : 0 < k := by omega
    have e : (2 ^ 63 - 1 : Int) / 100000 ≤ (2 ^ 63 - 1) / k := by
      apply Int.le_ediv_of_mul_le hk0
      have : (2 ^ 63 - 1 : Int) / 100000 * k ≤ (2 ^ 63 - 1 : Int) / 100000 * 100000 := Int.mul_le_mul_of_nonneg_left h1 (by decide)
      have e2 : (2 ^ 63 - 1 : Int) / 100000 * 100000 ≤ 2 ^ 63 - 1 := by decide
      omega
    have e3 : (100 : Int) ≤ (2 ^ 63 - 1 : Int) / 100000 := by decide
    omega
  · have hq := q
    unfold strRep at hq
    by_cases c1 : k < 1
    · rw [if_pos c1] at hq ⊢
      exact ⟨by decide, .str Str.empty, H, I.tok _, ⟨_, rfl⟩, hq⟩
    · rw [if_neg c1] at hq ⊢
      by_cases c2 : (k == 1 || z.length == 0) = true
      · rw [if_pos c2] at hq ⊢
        exact ⟨.str z, H, I, ⟨_, rfl⟩, hq⟩
      · rw [if_neg c2] at hq ⊢
        refine ⟨?_, .str _, H, I.tok _, ⟨_, rfl⟩, hq⟩
        show Str.length ⟨List.foldl (· ++ ·) #[] (List.replicate k.toNat z.cps)⟩ ≤ _
        have e : Str.length ⟨List.foldl (· ++ ·) #[] (List.replicate k.toNat z.cps)⟩ = k.toNat * z.length := by
          show (List.foldl (· ++ ·) #[] (List.replicate k.toNat z.cps)).size = _
          rw [repl_size]
          show 0 + k.toNat * z.cps.size = k.toNat * z.cps.size
          omega
        rw [e, Nat.mul_comm, sizeLine_eq]
        omega

/-! ### a tuple backwards -/
theorem fm_congr {α β : Type} {f g : α → Option β} : ∀ {l : List α}, (∀ m ∈ l, f m = g m) → l.filterMap f = l.filterMap g
  | [], _ => rfl
  | a :: l, h => by
    have e := fm_congr (l := l) fun m hm => h m (List.mem_cons_of_mem _ hm)
    rw [List.filterMap_cons, List.filterMap_cons, h a (List.mem_cons_self ..), e]
theorem rev_pick (xs : Array Value) : ((List.range xs.size).filterMap fun (m : Nat) => xs[(((xs.size : Int) - 1) + (m : Int) * (-1)).toNat]?) = xs.toList.reverse := by
  have e : (List.range xs.size).filterMap (fun (m : Nat) => xs[(((xs.size : Int) - 1) + (m : Int) * (-1)).toNat]?) = ((List.range xs.size).map fun k => xs.size - 1 - k).filterMap (xs[·]?) := by
    rw [List.filterMap_map]
    refine fm_congr fun m hm => ?_
    have := List.mem_range.mp hm
    show xs[(((xs.size : Int) - 1) + (m : Int) * (-1)).toNat]? = xs[xs.size - 1 - m]?
    have e2 : (((xs.size : Int) - 1) + (m : Int) * (-1)).toNat = xs.size - 1 - m := by omega
    rw [e2]
  rw [e, PySem.W.krv_range, List.filterMap_reverse, PySem.W.krv_all]
section
variable {prog : Program} {w : World} {A : Around} {E : Value → Shared → Prop} {s : Shared}
open HT in
theorem getItem_tuple_rev {t sl : Addr} {items : Array Value} {vs : Value} {Q : Value → Shared → Prop} (ht : IsTup s.heap t items) (hs : s.heap.IsSliceOf sl .none .none vs) (ps : IsPart vs (some (-1)))
    (h : Q (.ref s.heap.objs.size) { s with heap := s.heap.push { cls := .type "tuple", data := .seq items.toList.reverse.toArray } }) (hsz : items.size ≤ sizeLine) : wpAny (model prog w) A (getItem (.ref t) (.ref sl)) Q E s := by
  have htake : sizeOk (.seq items.toList.reverse.toArray) := by
    show items.toList.reverse.toArray.size ≤ sizeLine
    rw [List.size_toArray, List.length_reverse, Array.length_toList]
    exact hsz
  obtain ⟨os, hos, hcs, hds⟩ := id hs
  have hTs : s.TypeIs (.ref sl) "slice" := ⟨os, hos, hcs⟩
  unfold getItem
  try with_reducible refine wpAny_holding ?_
  first | refine wpAny_bind (wpAny_pure ?_) | skip
  refine wpAny_bind (wpAny_sequenceKey ht.typeIs (by decide) ?_)
  refine wpAny_bind (wpAny_callSpecial?_slot (name := Str.ofString "__getitem__") ht.typeIs PyProof.Rows.slot_tuple_getitem
    (wpAny_call_entry PyProof.Rows.slot_tuple_getitem ht.typeIs entry_tuple_getitem ?_ (args_tuple_getitem _ _)))
  show wpAny _ _ (Builtin.Tuple.tupleItemsOf (.ref t) >>= _) _ _ s
  refine wpAny_bind (tupleItemsOf_ ht ?_)
  refine wpAny_bind (wpAny_typeOf hTs ?_)
  rw [if_pos (by decide)]
  have happ : ∀ {A : Around} {E : Value → Shared → Prop} {R : Int × Int × Nat → Shared → Prop}, R (((items.size : Nat) : Int) - 1, -1, items.size) s → wpAny (model prog w) A (Builtin.Slice.sliceApplied (.ref sl) (pure ((items.size : Nat) : Int))) R E s := by
    intro A E R q
    unfold Builtin.Slice.sliceApplied Builtin.Slice.sliceFields
    refine wpAny_bind (wpAny_bind (wpAny_field hos hds (x := .none) rfl (wpAny_bind (wpAny_field hos hds (x := .none) rfl (wpAny_bind (wpAny_field hos hds (x := vs) rfl (wpAny_pure ?_)))))))
    refine wpAny_bind (slicePart_ ps ?_)
    show wpAny _ _ (if ((-1 : Int) == 0) = true then _ else _) _ _ s
    rw [if_neg (by decide)]
    refine wpAny_bind (slicePart_none (wpAny_bind (slicePart_none (wpAny_bind (wpAny_pure ?_)))))
    have e1 : Builtin.Slice.sliceAdjust none none (-1) ((items.size : Nat) : Int) = (((items.size : Nat) : Int) - 1, -1) := rfl
    show wpAny _ _ (match Builtin.Slice.sliceAdjust none none (-1) ((items.size : Nat) : Int) with | (lo, hi) => pure (lo, (-1 : Int), Builtin.Slice.slicePlaces lo hi (-1))) _ _ s
    rw [e1]
    have e2 : Builtin.Slice.slicePlaces (((items.size : Nat) : Int) - 1) (-1) (-1) = items.size := by
      unfold Builtin.Slice.slicePlaces
      have h1 : ¬ ((-1 : Int) > 0) := by decide
      have h2 : (- -1 : Int) = 1 := by decide
      simp only [h1, if_false, h2, Int.ediv_one]
      split <;> omega
    show wpAny _ _ (pure (((items.size : Nat) : Int) - 1, (-1 : Int), Builtin.Slice.slicePlaces (((items.size : Nat) : Int) - 1) (-1) (-1))) _ _ s
    rw [e2]
    exact wpAny_pure q
  refine wpAny_bind (happ ?_)
  have hno : ¬ ((((items.size : Nat) : Int) - 1 == 0 && (-1 : Int) == 1 && items.size == items.size) = true) := by
    intro q
    rw [Bool.and_eq_true, Bool.and_eq_true] at q
    exact absurd (eq_of_beq q.1.2) (by decide)
  show wpAny _ _ (if (((items.size : Nat) : Int) - 1 == 0 && (-1 : Int) == 1 && items.size == items.size) = true then _ else _) _ _ s
  rw [if_neg hno, rev_pick]
  first
    | exact wpAny_bind (m := Builtin.Tuple.tupleExact _) (wpAny_newObj_type (wpAny_pure ⟨_, rfl, wpAny_pure h⟩) htake)
    | exact wpAny_bind (m := Builtin.Tuple.tupleExact _) (wpAny_newObj_type (wpAny_bind (wpAny_pure (wpAny_pure ⟨_, rfl, wpAny_pure h⟩))) htake)
    | exact wpAny_bind (wpAny_bind (m := Builtin.Tuple.tupleExact _) (wpAny_newObj_type (wpAny_pure (wpAny_pure ⟨_, rfl, wpAny_pure h⟩)) htake))
    | exact wpAny_bind (wpAny_bind (m := Builtin.Tuple.tupleExact _) (wpAny_newObj_type (wpAny_pure ⟨_, rfl, wpAny_pure h⟩) htake))
end
/-- t[::-1], t a tuple -/
def tRevT (K : PySem.W.Frag) (te : TE) : TE := fun σ H Q => te σ H fun x H1 => ∃ a xs, x = .ref a ∧ SqT K H1 a xs ∧ ∀ p, H1 p = none → Q (.ref p) (upd H1 p (.tup xs.reverse))
theorem pe_revT {X : Cx} {e : Expr} {te : TE} {k : Nat} {p1 p2 p3 pos : Pos} (he : PE X e te) : PE X (.Subscript e (.Slice none none (some (.UnaryOp .USub (.Constant (.int 1) k p1) p2)) p3) pos) (tRevT X.K te) := by
  refine ⟨fun pins s σ H Q I h => ?_⟩
  refine Subscript_ (thn (he.run pins s σ H _ I h) fun v s1 ⟨x, H1, I1, r1, q1⟩ => ?_)
  obtain ⟨a, xs, ex, hx, q⟩ := q1
  subst ex
  cases r1
  have hst : PO X (some (.UnaryOp .USub (.Constant (.int 1) k p1) p2)) (tPart (tUn (rU fun i => .int (-i)) (tC (.int 1)))) := po_some (pe_un un_neg pe_int)
  refine wpAny_Slice (thn (po_none.run pins s1 σ H1 (fun o H2 => o = none ∧ H2 = H1) I1 ⟨rfl, rfl⟩) fun vl s2 ⟨l, H2, I2, pl, el, e2⟩ => ?_)
  subst el e2
  refine thn (po_none.run pins s2 σ H2 (fun o H3 => o = none ∧ H3 = H2) I2 ⟨rfl, rfl⟩) fun vu s3 ⟨u, H3, I3, pu, eu, e3⟩ => ?_
  subst eu e3
  refine thn (hst.run pins s3 σ H3 (fun o H4 => o = some (-1) ∧ H4 = H3) I3 ⟨1, rfl, -1, rfl, rfl, rfl⟩) fun vs s4 ⟨o, H4, I4, ps, eo, e4⟩ => ?_
  subst eo e4
  have I5 : Inv X pins σ H4 { s4 with heap := s4.heap.push { cls := .type "slice", data := .fields #[vl, vu, vs] } } := I4.kept (t' := s4.toks) fun b ob q => Heap.get?_push_of_some _ q
  obtain ⟨its, r, ht, hz⟩ := I5.tuple hx
  have hlen := r.length
  cases pl
  cases pu
  show wpAny (model X.prog X.w) X.A (subscriptTail e (.Slice none none (some (.UnaryOp .USub (.Constant (.int 1) k p1) p2)) p3) (.ref a) (.ref s4.heap.objs.size)) (EP X pins σ Q) X.xe { s4 with heap := s4.heap.push { cls := .type "slice", data := .fields #[.none, .none, vs] } }
  refine tail_any (ops := [.ref a, .ref s4.heap.objs.size]) ht.typeIs PyProof.Rows.slot_tuple_getitem.lookup (getItem_tuple_rev ht (Heap.IsSliceOf.new _ _ _ vs) ps ?_ (by rw [List.size_toArray, ← hlen]; exact hz)) (by with_unfolding_all rfl)
  refine ⟨.ref _, _, I5.laid (t' := s4.toks) (o := .tup xs.reverse) (fun b ob q => Heap.get?_push_of_some _ q) (Nat.le_refl _) ⟨by rw [List.length_reverse]; exact hz, _, r.reverse, IsTup.new _ _⟩, rfl, q _ (I5.hok.fresh (Nat.le_refl _))⟩

/-! ### a cut between two statements -/
def tCut (t u : TS) : TS := fun D σ H => ∃ I : L2.St → Hp → Prop, t { nx := I, rt := D.rt, bk := D.bk, ct := D.ct } σ H ∧ ∀ τ G, I τ G → u D τ G
theorem pss_cut {X : Cx} {st : Stmt} {rest : List Stmt} {t u : TS} (h1 : PS X st t) (h2 : PSs X rest u) : PSs X (st :: rest) (tCut t u) := by
  refine ⟨fun pins s σ H D J q => ?_⟩
  obtain ⟨I, q1, q2⟩ := q
  refine wpAny_execs_cons (thn (h1.run pins s σ H _ J q1) fun f s1 r => ?_)
  match f, r with
  | .next, ⟨τ, G, J1, r1⟩ => exact h2.run pins s1 τ G D J1 (q2 τ G r1)
  | .brk, r => exact r
  | .cont, r => exact r
  | .ret u, r => exact r
end XX

set_option maxRecDepth 100000
set_option maxHeartbeats 4000000
namespace XX
open PySem PySem.Spec PyProof.Rows L2
/-! ### promises of defs that are kept where no object is being shown (repr) -/
structure FnG (P : Program) (w : World) (K : PySem.W.Frag) (mg : Str → Option Value) (base : Heap) (CX : CXT) (k : Nat) (f : Addr) (fd : FuncData) (ps : List Str) (sp : Sp) : Prop where
  lenG : ∀ vs H Q E, sp vs H Q E → vs.length = ps.length
  runG : ∀ (A : Around) (outer : List Env) (s : Shared) (H : Hp) (args : Args) (us : List Value) (vs : List V) (Q : VK) (E : XK), A.guards = some [] → Room k A → Env0 P w K mg base A outer s H →
    BindsTo s fd args (ps.zip us) → Vals vs us → sp vs H Q E → codeAny (model P w) A (.call (.ref f) args) (CR CX outer P w H s Q E) s
structure FnD (P : Program) (w : World) (K : PySem.W.Frag) (mg : Str → Option Value) (base : Heap) (CX : CXT) (k : Nat) (x : Str) (ps : List Str) (sp : Sp) : Prop where
  ex : ∃ (f : Addr) (fd : FuncData), FnG P w K mg base CX k f fd ps sp ∧ mg x = some (.ref f) ∧ PySem.W.keepIn K (.ref f) = true ∧ Binds K fd ps []
section
variable {P : Program} {w : World} {K : PySem.W.Frag} {mg : Str → Option Value} {base : Heap}
theorem guards_deeper {A : Around} {env : Env} (h : A.guards = some []) : (A.deeper env).guards = some [] := h
theorem Def.okG {CX : CXT} {x : Str} {st : Stmt} {N ps : List Str} {k : Nat} {sp : Sp} (D : Def K mg x st ps) (S : FnScope N ps (defScope st)) (len : ∀ vs H Q E, sp vs H Q E → vs.length = ps.length)
    (hbody : ∀ (f : Addr) (cdv : Value) (A : Around) (outer : List Env) (s : Shared) (H : Hp) (vs : List V) (Q : VK) (E : XK), (A.deeper (envOfC x (defScope st) s.heap.objs.size f cdv)).guards = some [] → Room k (A.deeper (envOfC x (defScope st) s.heap.objs.size f cdv)) → sp vs H Q E →
      ∃ t, PSs (cxOf CX P w K mg base N x (defScope st) f cdv A outer s H E) (defBody st) t ∧ t { nx := fun _ H' => Q .non H', rt := Q } (L2.start N vs) H) : FnD P w K mg base CX (k + 1) x ps sp := by
  obtain ⟨f, fd, F, hm, hb⟩ := D.ex
  refine ⟨f, fd, ⟨len, fun A outer s H args us vs Q E hg hr e0 hbd r hsp => ?_⟩, hm, F.kp, hb⟩
  obtain ⟨oc, od, kV, doc, pm, an, cdv, ct, osl, rfl, lk, hcd⟩ := F.ex
  have len0 := len _ _ _ _ hsp
  have hin : K.In s.heap := e0.mod.kin.keeps fun b o q => (e0.bs b o q).1
  have hnl : s.heap.NoLimit := e0.mod.nolimit.keeps fun b o q => (e0.bs b o q).1
  have knd : ∀ y ∈ ps.zip us, (defScope st).names.lookup y.1 = some .local ∨ ((defScope st).names.lookup y.1 = some .cell ∧ ((cellsFrom (s.heap.objs.size + 1) (defScope st).names []).lookup y.1).isSome = true) := by
    rintro ⟨n, v⟩ hy
    exact (S.par n (List.of_mem_zip hy).1).imp id fun q => ⟨q, PySem.W.cellsFrom_some _ _ _ (.inl q)⟩
  refine codeAny_call_function hr.depth (hin _ _ lk) rfl S.co S.gen rfl (PySem.W.codeRec_of hin hcd) (hbd _ _ _ _ (wpAny_newFunctionEnv_cells S.kind knd fun env he s1 x1 => ?_))
  subst he
  refine ⟨hnl.keeps x1.toInCall.keep, codeAny_func ?_⟩
  obtain ⟨t, ht, hq⟩ := hbody f cdv A outer s H vs Q E (guards_deeper hg) (hr.deeper _) hsp
  have fin : ∀ {s' : Shared} {τ : L2.St} {H' : Hp} {v : V} {u : Value}, Inv (cxOf CX P w K mg base N x (defScope st) f cdv A outer s H E) [] τ H' s' → RelV v u → Q v H' → CE outer P w H s Q u s' :=
    fun J rv q => ⟨_, _, J.os, J.bare, J.base, J.hok, rv, q⟩
  refine wpAny_mono (ht.run [] s1 (L2.start N vs) H _ (inv_start S hr.hd e0 len0 r x1) hq) (fun fl s' hs => ?_) fun e s' hs => hs
  match fl, hs with
  | .ret u, ⟨v, τ, H', J, rv, q⟩ => exact fin J rv q
  | .next, ⟨τ, H', J, q⟩ => exact fin (v := V.non) (u := Value.none) J rfl q
  | .brk, ⟨_, _, _, q⟩ => exact q.elim
  | .cont, ⟨_, _, _, q⟩ => exact q.elim
end
section
variable {X : Cx} {CX : CXT} {k : Nat} {x : Str} {ps : List Str} {sp : Sp} {p pos : Pos} {e : Expr} {es : List Expr} {t : TA} {E : XK}
theorem pe_d (c : FnD X.prog X.w X.K X.mg X.base CX k x ps sp) (hgu : X.A.guards = some []) (hr : Room k X.A) (hx : Passes CX X E) (hg : Gl X x) (ha : PA X (e :: es) t) (hdb : (x == ("__debug__" : Str)) = false := by decide)
    (he : starEach (e :: es) X.env = (false, eval e X.env) :: starEach es X.env := by rfl) (hpl : (backTo pos (starEach es X.env)).any (·.1) = false := by rfl) :
    PE X (.Call (.Name x p) (e :: es) [] pos) (tCall sp [] E t) := by
  obtain ⟨f, fd, F, hm, hk, hb⟩ := c.ex
  refine ⟨fun pins s σ H Q I h => wpAny_Call_Name_kw (ld_glob I hg hm (PySem.W.callWith_K (h₀ := X.base) I.ok.mod.kin hk (thn (ha.run pos pins s σ H _ I h) fun us s1 ⟨vs, H1, I1, r, q⟩ => ⟨I1.kIn, ?_⟩) he hpl) hdb)⟩
  have q' : sp vs H1 Q E := List.append_nil vs ▸ q
  have hl : us.length = ps.length := by rw [← Vals.length r]; exact F.lenG _ _ _ _ q'
  have hbd := hb s1 us I1.kIn (by rw [List.append_nil]; exact hl)
  rw [List.append_nil] at hbd
  refine wpAny_call (codeAny_mono (F.runG X.A X.stack s1 H1 ⟨us, []⟩ us vs Q E hgu hr I1.env0 hbd r q') fun r2 s' hq => ?_)
  match r2, hq with
  | .error er, hq => exact hx pins σ H1 s1 er s' I1 hq
  | .ok (.ret u), hq => exact I1.after hq
  | .ok .next, hq => exact False.elim hq
  | .ok .brk, hq => exact False.elim hq
  | .ok .cont, hq => exact False.elim hq
end
/-! ### repr of data -/
def rReprD (K : PySem.W.Frag) : List V → Hp → VK → Prop := fun xs H Q => ∃ (v : V) (d : PyData), xs = [v] ∧ Dp K H v d ∧ d.showable = true ∧ d.hasDict = false ∧ d.depth ≤ 64 ∧ d.shown.length ≤ sizeLine ∧ Q (.str d.shown) H
section
variable {X : Cx}
theorem call_reprD (hg : X.A.guards = some []) (hu : X.A.units + 80 < cLine) : CallR X (.builtin "repr") (rReprD X.K) := by
  intro pins s σ H xs us Q I r h
  obtain ⟨v, d, rfl, hd, h1, h2, h3, h4, q⟩ := h
  obtain ⟨u, rfl, ru⟩ := vals1 r
  obtain ⟨as, rd⟩ := Dp.reads I d v u hd ru
  cases rd with
  | none => exact PySem.P.repr_of_none ⟨.str _, H, I.tok _, ⟨_, rfl⟩, q⟩
  | bool b => exact PySem.P.repr_of_bool ⟨.str _, H, I.tok _, ⟨_, rfl⟩, q⟩
  | int i t => exact PySem.P.repr_of_int (by simpa [PyData.showable] using h1) ⟨.str _, H, I.tok _, ⟨_, rfl⟩, q⟩
  | str x t => exact PySem.P.repr_of_str ⟨.str _, H, I.tok _, ⟨_, rfl⟩, q⟩ (by simpa [PyData.shown] using h4)
  | list a1 a2 a3 a4 => exact repr_of_reads' (.list a1 a2 a3 a4) h1 (fun z => by rw [h2] at z; cases z) hg (by omega) (fun _ _ e => e) (fun h' u tk hk => ⟨.str _, H, I.kept (t' := tk) hk, ⟨_, rfl⟩, q⟩) h4
  | tuple a1 a2 a3 a4 => exact repr_of_reads' (.tuple a1 a2 a3 a4) h1 (fun z => by rw [h2] at z; cases z) hg (by omega) (fun _ _ e => e) (fun h' u tk hk => ⟨.str _, H, I.kept (t' := tk) hk, ⟨_, rfl⟩, q⟩) h4
  | dict a1 a2 a3 a4 a5 => exact absurd h2 (by simp [PyData.hasDict])
end
end XX

set_option maxRecDepth 100000
set_option maxHeartbeats 4000000
namespace XX
open PySem PySem.Spec PyProof.Rows L2
/-- the script's abstract heap: nothing is tracked but, perhaps, the script at a -/
def scriptHp (a : Addr) (ob : Obj) (ns : List Int) : Hp := fun b => if b = a then some (.frz ob (.lst (ns.map V.int))) else none
theorem scriptHp_some {a b : Addr} {ob : Obj} {ns : List Int} {u : HO} (h : scriptHp a ob ns b = some u) : b = a ∧ u = .frz ob (.lst (ns.map V.int)) := by
  unfold scriptHp at h
  by_cases c : b = a
  · rw [if_pos c] at h
    exact ⟨c, (Option.some.inj h).symm⟩
  · rw [if_neg c] at h
    cases h
section
variable {P : Program} {w : World} {K : PySem.W.Frag} {mg mb : Str → Option Value} {CX : CXT} {k : Nat} {fa a : Addr} {fd : FuncData} {x : Str} {sp : Sp} {s₁ : Shared} {vs : List Value} {ns : List Int}
/-- the law's call from an abstract heap H that tracks at most the script -/
theorem law_core (KX : K.In s₁.heap) (hns : s₁.heap.Ns mainGlobals mg) (hb : s₁.heap.Ns builtinsNs mb) (hbb : ∀ x : Str, x ≠ "__name__" → mb x = bootBuiltins x) (hlim : s₁.heap.NoLimit) (hg : s₁.gens = #[])
    (ha : s₁.heap.get? a = some { cls := .type "list", data := .seq vs.toArray }) (hr : Room k callerA)
    (F : ∀ base : Heap, K.In base → base.Ns mainGlobals mg → FnG P w K mg base CX k fa fd [x] sp) (hbind : ∀ (s : Shared) (u : Value), BindsTo s fd ⟨[u], []⟩ [(x, u)])
    {H : Hp} (hsp : sp [.ref a] H (fun v _ => v = .bl true) fun _ _ _ => False) (hCX : ∀ e s', CX [] H s₁ (fun _ _ _ => False) e s' → False) (hO : Only H) (hok : HOk P w H s₁.heap) (hA : ∀ b u, H b = some u → b = a) (hK : ∀ u, H a = some u → K.lookup a = none) :
    codeAny (model P w) callerA (.call (.ref fa) ⟨[.ref a], []⟩) (fun r s' => r = .ok (.ret (.bool true)) ∧ OldK s₁.heap s'.heap ∧ s'.os = s₁.os ∧ AllBare s'.gens) s₁ := by
  have free : ∀ {b : Addr} {o : Obj} {es : Array DictEntry} {ep : Nat}, s₁.heap.get? b = some o → o.data = .dict es ep → H b = none := fun {b o es ep} e d => by
    cases q : H b with
    | none => rfl
    | some u =>
      have e' := hA b u q
      subst e'
      rw [ha] at e
      cases e
      cases d
  have nsH : ∀ {b : Addr} {m : Str → Option Value}, s₁.heap.Ns b m → (hidT s₁.heap H).Ns b m := fun {b m} ⟨o, es, ep, e, d, r⟩ => ⟨o, es, ep, hidT_get e (free e d), d, r⟩
  have kH : K.In (hidT s₁.heap H) := fun b o e => hidT_get (KX b o e) (by
    cases q : H b with
    | none => rfl
    | some u =>
      have e' := hA b u q
      subst e'
      rw [hK u q] at e
      cases e)
  obtain ⟨mc, l1, l2⟩ := hlim
  have md : Mod K mg (hidT s₁.heap H) := ⟨kH, nsH hns, ⟨mb, nsH hb, hbb⟩, ⟨mc, nsH l1, l2⟩⟩
  have e0 : Env0 P w K mg (hidT s₁.heap H) callerA [] s₁ H := ⟨rfl, md, fun b o e => of_hidT e, Nat.le_of_eq (hidT_size _ _), trivial, fun b z => absurd z List.not_mem_nil, hok, .of_eq hg⟩
  refine codeAny_mono ((F _ kH (nsH hns)).runG callerA [] s₁ H ⟨[.ref a], []⟩ [.ref a] [.ref a] _ _ rfl hr e0 (hbind s₁ (.ref a)) (.cons rfl .nil) hsp) fun r s' h => ?_
  match r, h with
  | .error e, h => exact (hCX e s' h).elim
  | .ok .next, h => exact False.elim h
  | .ok .brk, h => exact False.elim h
  | .ok .cont, h => exact False.elim h
  | .ok (.ret u), ⟨v, H', os, bare, un, hok', rv, ev⟩ =>
    have ev' : v = .bl true := ev
    subst ev'
    cases (show u = Value.bool true from rv)
    refine ⟨rfl, OldK.of_keep fun b o e => ?_, os, bare⟩
    rcases hO b with z | ⟨ob, xs, z⟩
    · exact un.keep b o e z List.not_mem_nil List.not_mem_nil
    · obtain ⟨e1, _⟩ := hok b _ z
      obtain ⟨e2, _⟩ := hok' b _ (un.frzs b ob _ z)
      rw [e] at e1
      cases e1
      exact e2
theorem law_callG (KX : K.In s₁.heap) (hns : s₁.heap.Ns mainGlobals mg) (hb : s₁.heap.Ns builtinsNs mb) (hbb : ∀ x : Str, x ≠ "__name__" → mb x = bootBuiltins x) (hlim : s₁.heap.NoLimit) (hg : s₁.gens = #[])
    (ha : s₁.heap.get? a = some { cls := .type "list", data := .seq vs.toArray }) (hi : IntsAre vs ns) (hl : ns.length ≤ sizeLine) (hr : Room k callerA)
    (F : ∀ base : Heap, K.In base → base.Ns mainGlobals mg → FnG P w K mg base CX k fa fd [x] sp) (hbind : ∀ (s : Shared) (u : Value), BindsTo s fd ⟨[u], []⟩ [(x, u)])
    (hsp : ∀ H : Hp, Only H → SqL K H a (ns.map V.int) → sp [.ref a] H (fun v _ => v = .bl true) fun _ _ _ => False) (hCX : ∀ H e s', CX [] H s₁ (fun _ _ _ => False) e s' → False) :
    codeAny (model P w) callerA (.call (.ref fa) ⟨[.ref a], []⟩) (fun r s' => r = .ok (.ret (.bool true)) ∧ OldK s₁.heap s'.heap ∧ s'.os = s₁.os ∧ AllBare s'.gens) s₁ := by
  have rv := vals_of_ints hi
  have lv := hi.length
  cases hk : K.lookup a with
  | some o =>
    have e := KX a o hk
    rw [ha] at e
    cases e
    have O0 : Only (fun _ => none) := fun _ => .inl rfl
    exact law_core KX hns hb hbb hlim hg ha hr F hbind (hsp _ O0 (.inr ⟨_, vs.toArray, _, hk, rfl, rfl, rfl, by rw [List.size_toArray, lv]; exact hl, by simpa using rv⟩)) (hCX _) O0 (fun b u z => nomatch z) (fun b u z => nomatch z) fun u z => nomatch z
  | none =>
    have O1 : Only (scriptHp a { cls := .type "list", data := .seq vs.toArray } ns) := fun b => by
      cases q : scriptHp a { cls := .type "list", data := .seq vs.toArray } ns b with
      | none => exact .inl rfl
      | some u => exact .inr ⟨_, _, by rw [(scriptHp_some q).2]⟩
    refine law_core KX hns hb hbb hlim hg ha hr F hbind (hsp _ O1 (.inl (.inr ⟨_, if_pos rfl⟩))) (hCX _) O1 (fun b u z => ?_) (fun b u z => (scriptHp_some z).1) fun _ _ => hk
    obtain ⟨e1, e2⟩ := scriptHp_some z
    subst e1 e2
    exact ⟨ha, by rw [List.length_map]; exact hl, vs, _, rv, ha⟩
end
theorem walk_ofG {l : PySem.W.OpenLaw} {n k : Nat} {q : Program} {loose : List Str} {XP : (Str → Option Value) → Heap → Prop} {YP : World → Heap → Prop} {d : DefRec} {K : Params → PySem.W.Frag} {CX : World → CXT} {sp : PySem.W.Frag → Sp} {x : Str}
    (hn : l.most = some n) (hn2 : n ≤ sizeLine) (hdf : d.params.defaults = []) (hr : Room k callerA) (hY : ∀ (w : World) (h : Heap), YP w h → (K w.params).In h)
    (F : ∀ (w : World) (mg : Str → Option Value) (fa : Addr) (h : Heap), (K w.params).In h → h.Ns mainGlobals mg → mg d.name = some (.ref fa) →
      ∃ fd : FuncData, (∀ (s : Shared) (u : Value), BindsTo s fd ⟨[u], []⟩ [(x, u)]) ∧ ∀ base : Heap, (K w.params).In base → base.Ns mainGlobals mg → FnG l.prog w (K w.params) mg base (CX w) k fa fd [x] (sp (K w.params)))
    (hsp : ∀ (K : PySem.W.Frag) (H : Hp) (a : Addr) (ns : List Int), ns.length ≤ n → Only H → SqL K H a (ns.map V.int) → sp K [.ref a] H (fun v _ => v = .bl true) fun _ _ _ => False)
    (hCX : ∀ (w : World) (H : Hp) (s : Shared) (e : Value) (s' : Shared), CX w [] H s (fun _ _ _ => False) e s' → False) :
    PySem.W.WalkO q loose XP YP l.row.toRowW d [] (fun f vs => PySem.call f vs) := by
  refine Att.attach_call hn hdf fun w s₀ s₁ mg mb fa o pm cd doc a vs ns G Y ho hd hcd hmg hobj hints hlen hg => ?_
  have KX := hY w _ Y
  obtain ⟨fd, hb, hF⟩ := F w mg fa _ KX G.T.g hmg
  exact law_callG KX G.T.g G.T.b G.T.builtins G.T.nolimit hg hobj hints (Nat.le_trans hlen hn2) hr hF hb (fun H hO hS => hsp _ H a ns hlen hO hS) fun H e s' => hCX w H s₁ e s'
end XX

set_option maxRecDepth 100000
set_option maxHeartbeats 4000000
namespace XX
open PySem PySem.Spec PyProof.Rows L2
/-! ### try: .. except C1 as n: .. except C2 as n: .. -/
abbrev Clause := Value × (Addr → Value → Option Addr → TS)
/-- what the clauses wish of an exception, the first that takes it; slot i is n's -/
def wMA (K : PySem.W.Frag) (i : Nat) (Wout : WX) (D : Ends) : List Clause → WX
  | [] => Wout
  | c :: r => wAs K c.1 i c.2 (wMA K i Wout D r) D
inductive HdsAs (X : Cx) (n : Str) : List ExceptHandler → List Clause → Prop
  | nil : HdsAs X n [] []
  | cons {x : Str} {c : Value} {ts : Addr → Value → Option Addr → TS} {b₀ : Stmt} {suite : List Stmt} {np pos' : Pos} {hds : List ExceptHandler} {l : List Clause} (hc : Names X x c)
      (hsu : ∀ (a : Addr) (oe : Obj) (cls : Value) (d : Option Addr) (pn : List (Addr × Obj)), Zc cls d oe → (∃ vs, oe.data = .fields vs) → PSs (X.suite a ((a, oe) :: pn)) (b₀ :: suite) (ts a cls d)) (r : HdsAs X n hds l) :
      HdsAs X n (.ExceptHandler (some (.Name x np)) (some n) (b₀ :: suite) pos' :: hds) ((c, ts) :: l)
section
variable {X : Cx} {n : Str} {i : Nat} {body : List Stmt} {h₀ : ExceptHandler} {hds : List ExceptHandler} {l : List Clause} {pos : Pos} {tb : WX → TS} {Wout : WX}
theorem ps_try_mas (hs : X.stack = X.env :: X.outer) (hf : X.env.frame = some X.env.locals) (hN : X.N.Nodup) (hi : X.N[i]? = some n) (hln : X.env.kindOf n = some .local) (tk : Takes X Wout)
    (hb : ∀ (W : WX) (pn : List (Addr × Obj)) (xe : Value → Shared → Prop), Takes (X.tr pn xe) W → PassesOwn (model X.prog X.w) X.A X.env xe → PSs (X.tr pn xe) body (tb W))
    (hh : HdsAs X n (h₀ :: hds) l) : PS X (.Try body (h₀ :: hds) [] [] pos) (fun D σ H => tb (wMA X.K i Wout D l) D σ H) := by
  refine ⟨fun pins s σ H D I h => ?_⟩
  have ok := I.ok
  have hfr : X.A.frames = some (X.env :: X.outer) := by rw [ok.frames, hs]
  have hloc : Loc X.env.scope n := .inl hln
  refine wpAny_Try_except (wpAny_mono ((hb (wMA X.K i Wout D l) (X.pn ++ pins) (fun e s₁ => wpAny (model X.prog X.w) X.A (noteFrame e X.env) (fun _ s₂ => wpAny (model X.prog X.w) X.A (setFlight e none) (fun _ s₃ =>
    wpAny (model X.prog X.w) X.A (handleBy e X.env (h₀ :: hds)) (SP X pins D) X.xe s₃) X.xe s₂) X.xe s₁) (fun u s' xx => ?_) PassesOwn.looking).run [] s σ H D (I.toTry _) h) (fun f s1 hsp => ?_) (fun e s1 he => he))
  · obtain ⟨a, B, sI, pins', σ', H', cls, d, rfl, J', nb, up, sky, na, os, ag, w⟩ := xx
    have J : Inv X pins σ' H' sI := J'.ofTry ok
    rw [hs] at sky
    refine Sky.land Zc.steady hfr hf sky fun h3 fl3 up3 => ?_
    have J3 : Inv X pins σ' H' { s' with heap := h3 } := J.landed nb fl3.1 (up.trans up3) os ag
    obtain ⟨oe3, vs3, he3, hz3, hd3⟩ := fl3.there
    have nfr : a ∉ frs (X.env :: X.outer) := fun hm => by
      obtain ⟨_, o', e', hnf⟩ := fl3.2.2.1.mem hm
      rw [he3] at e'
      cases e'
      exact hnf _ hd3
    have nL : a ≠ X.env.locals := fun z => nfr (List.mem_filterMap.mpr ⟨X.env, List.mem_cons_self, by rw [hf, z]⟩)
    have nF : a ∉ X.fs := fun hm => by
      obtain ⟨e, he, q⟩ := List.mem_filterMap.mp hm
      exact nfr (List.mem_filterMap.mpr ⟨e, List.mem_cons_of_mem _ he, q⟩)
    have S3 := J3.suite he3 hd3 na nL nF
    have go : ∀ {hds' : List ExceptHandler} {l' : List Clause}, HdsAs X n hds' l' → wMA X.K i Wout D l' cls d σ' H' →
        wpAny (model X.prog X.w) X.A (handleBy (.ref a) X.env hds') (SP X pins D) X.xe { s' with heap := h3 } := by
      intro hds' l' hk
      induction hk with
      | nil =>
        intro w
        refine wpAny_handleBy_nil ?_
        obtain ⟨k1, k2, k3, oe, vs, T, oT, ts', he, hz, hd, h1, hr⟩ := id fl3
        unfold PySem.passOn
        refine wpAny_bind (wpAny_field he hd h1 ?_)
        rw [if_neg (show ¬ ((Value.ref T == Value.none) = true) from by simp)]
        have fin : wpAny (model X.prog X.w) X.A (setFlight (.ref a) X.env.frame) (fun _ s4 => wpAny (model X.prog X.w) X.A (throw (.ref a) : Sem Flow) (SP X pins D) X.xe s4) X.xe { s' with heap := h3 } := by
          rw [hf]
          refine HandSPX.setFlight_upZ fl3 fun h4 hh4 up4 => wpAny_throw (tk _ _ ?_)
          exact ⟨a, B, sI, pins, σ', H', cls, d, rfl, J, nb, (up.trans up3).trans up4, .inr (.inr (by rw [hs]; exact hh4)), na, os, ag, w⟩
        first
          | exact wpAny_bind (wpAny_pure (wpAny_bind fin))
          | exact wpAny_bind fin
      | @cons x c ts b₀ suite np pos' hds2 l2 hc hsu r ih =>
        rintro ⟨b, hb1, hyes, hno⟩
        refine wpAny_handleBy_cons (codeAny_handlers_test ?_) (by intro q; cases q)
        have LT : PySem.W.Looks (model X.prog X.w) h3 (typeOf (.ref a)) cls := fun A Q E s k q => wpAny_typeOf_ref (k _ _ he3) (by rw [hz3.1]; exact q)
        have LM := PySem.W.exm_one (M := model X.prog X.w) (J3.kIn) LT hb1
        have test : ∀ {Q : Value → Shared → Prop} {E : Value → Shared → Prop}, Q c { s' with heap := h3 } → wpAny (model X.prog X.w) (X.A.mark (some (.ref a))) (eval (.Name x np) X.env) Q E { s' with heap := h3 } := fun {Q E} q => by
          obtain ⟨hg, hdbg, hm | ⟨hm, hv, hnn⟩⟩ := hc
          · exact ld_glob (X := X.suite a ((a, oe3) :: (X.pn ++ pins))) S3 hg hm q hdbg
          · exact ld_blt (X := X.suite a ((a, oe3) :: (X.pn ++ pins))) S3 hg hm hv q hnn hdbg
        refine test (LM.here ?_)
        cases b with
        | true =>
          refine codeAny_handlers_suite_as (HandSPX.lands_againZ fl3 fun h4 fl4 up4 => ?_)
          have J4 : Inv X pins σ' H' { s' with heap := h4 } := J.landed nb fl4.1 ((up.trans up3).trans up4) os ag
          obtain ⟨oe4, vs4, he4, hz4, hd4⟩ := fl4.there
          have S4 := J4.suite he4 hd4 na nL nF
          refine store_ok (X := X.suite a ((a, oe4) :: (X.pn ++ pins))) (v := .ref a) S4 hN hi hloc rfl (fun s5 S5 => ?_) (.inr hln)
          refine wpAny_mono ((hsu a oe4 cls d (X.pn ++ pins) hz4 ⟨_, hd4⟩).run [] s5 _ H' _ S5 (hyes rfl a na)) (fun f s6 hsp => ?_) (fun _ _ z => False.elim z)
          have stop : ∀ {τ : L2.St} {H6 : Hp} {Q : Shared → Prop}, Inv (X.suite a ((a, oe4) :: (X.pn ++ pins))) [] τ H6 s6 → (∀ s7, Inv X pins (τ.set i none) H6 s7 → Q s7) →
              wpAny (model X.prog X.w) X.A (do bindName X.env n .none; unbindBehindTheSuite X.env n pos') (fun _ s7 => Q s7) X.xe s6 := fun {τ H6 Q} S6 hq => gone_ok (S6.unsuite ok) hN hi hln hq
          match f, hsp with
          | .next, ⟨τ, H6, S6, q6⟩ => exact stop S6 fun s7 J7 => ⟨_, _, J7, q6⟩
          | .brk, ⟨τ, H6, S6, q6⟩ => exact stop S6 fun s7 J7 => ⟨_, _, J7, q6⟩
          | .cont, ⟨τ, H6, S6, q6⟩ => exact stop S6 fun s7 J7 => ⟨_, _, J7, q6⟩
          | .ret u, ⟨v6, τ, H6, S6, r6, q6⟩ => exact stop S6 fun s7 J7 => ⟨_, _, _, J7, r6, q6⟩
        | false =>
          show wpAny _ X.A (handleBy (.ref a) X.env hds2) _ _ _
          exact ih (hno rfl)
    exact go hh w
  · match f, hsp with
    | .next, ⟨τ, H', J', q⟩ => exact wpAny_execs_nil ⟨τ, H', J'.ofTry ok, q⟩
    | .brk, ⟨τ, H', J', q⟩ => exact ⟨τ, H', J'.ofTry ok, q⟩
    | .cont, ⟨τ, H', J', q⟩ => exact ⟨τ, H', J'.ofTry ok, q⟩
    | .ret u, ⟨v, τ, H', J', r, q⟩ => exact ⟨v, τ, H', J'.ofTry ok, r, q⟩
end
end XX

set_option maxRecDepth 100000
set_option maxHeartbeats 4000000
namespace XX
open PySem PySem.Spec PyProof.Rows L2
/-! ### the package's errors: an own class under ValueError whose __init__ keeps one value -/
/-- what the written part says of such a class, under the name x, its __init__ (its own or inherited) at fI -/
structure ErrC (K : PySem.W.Frag) (mg : Str → Option Value) (x : Str) (C fI : Addr) : Prop where
  g : mg x = some (.ref C)
  oex : OexC K C
  xf : XfC K C
  ini : PySem.W.findIn K (.ref C) "__init__" = some (some (.ref fI))
  tI : PySem.W.typeIn K (.ref fI) = some (.type "function")
  no : PySem.W.findIn K (.ref C) "value" = some none
/-- its __init__: self.value is told -/
def spErr (K : PySem.W.Frag) : Sp := fun vs H Q _ => ∃ (a C : Addr) (v : V), vs = [.ref a, v] ∧ OexC K C ∧ PySem.W.findIn K (.ref C) "value" = some none ∧ H a = some (exo a C none) ∧
  ∀ dx, H dx = none → dx ≠ a → Q .non (upd (upd H dx (exd dx [("value", v)])) a (exo a C (some dx)))
theorem err_heap {H : Hp} {a dx : Addr} {o1 o2 o3 u : HO} (h : dx ≠ a) (ha : H a = none) : upd (del (upd (upd (upd H a o1) dx o2) a o3) a) dx u = upd H dx u := by
  funext b
  by_cases hb : b = dx
  · rw [hb, upd_same, upd_same]
  · rw [upd_ne hb, upd_ne hb]
    by_cases hc : b = a
    · rw [hc, del_same, ha]
    · rw [del_ne hc, upd_ne hc, upd_ne hb, upd_ne hc]
/-- what raising asks behind its value v: the way out at the error's own dict -/
theorem err_of {K : PySem.W.Frag} {C : Addr} {v : V} {H : Hp} {Q : XK} (oex : OexC K C) (no : PySem.W.findIn K (.ref C) "value" = some none) (h : ∀ d, H d = none → Q (.ref C) (some d) (upd H d (.xd [("value", v)]))) :
    ([v] : List V).length ≤ 1000 ∧ ∀ a, H a = none → spErr K (.ref a :: ([v] ++ [])) (upd H a (exo a C none))
      (fun v' H2 => v' = .non ∧ ∃ (d : Addr) (fs : List (Str × V)), H2 a = some (exo a C (some d)) ∧ H2 d = some (exd d fs) ∧ H d = none ∧ Q (.ref C) (some d) (upd (del H2 a) d (.xd fs))) (fun _ _ _ => False) := by
  refine ⟨(by show 1 ≤ 1000; decide), fun a ha => ⟨a, C, v, rfl, oex, no, upd_same, fun dx hd hne => ⟨rfl, dx, [("value", v)], upd_same, by rw [upd_ne hne, upd_same], ?_, ?_⟩⟩⟩
  · rw [upd_ne hne] at hd
    exact hd
  · rw [upd_ne hne] at hd
    rw [err_heap hne ha]
    exact h dx hd
section
variable {X : Cx} {CX : CXT} {k : Nat} {x : Str} {C fI : Addr} {fd : FuncData} {p pos pos2 : Pos} {e : Expr} {te : TE} {W : WX}
/-- raise x(e) -/
def tErr (K : PySem.W.Frag) (C : Addr) (W : WX) (te : TE) : TS := fun _ σ H => tMkO C (spErr K) [] (tCons te tNil) σ H fun cls d H' => W cls d σ H'
theorem ps_err (T : ErrC X.K X.mg x C fI) (F : FnOk X.prog X.w X.K X.mg X.base CX0 k fI fd ["self", "value"] (spErr X.K)) (hb : Binds X.K fd ["self", "value"] []) (hr : Room (k + 1) X.A) (hc : X.calm = true) (tk : Takes X W) (he : PE X e te) (hg : Gl X x)
    (hdb : (x == ("__debug__" : Str)) = false := by decide) (hs : starEach [e] X.env = [(false, eval e X.env)] := by rfl) (hs0 : starEach (e :: []) X.env = (false, eval e X.env) :: starEach [] X.env := by rfl) (hpl : (backTo pos (starEach [] X.env)).any (·.1) = false := by rfl) :
    PS X (.Raise (some (.Call (.Name x p) [e] [] pos)) none pos2) (tErr X.K C W te) :=
  ps_raise hc tk (pmk_oex T.oex T.ini T.tI F hr hb .nil pass0 hg T.g (pa_cons he pa_nil hs0) hdb hs0 hpl)
end
end XX

set_option maxRecDepth 100000
set_option maxHeartbeats 4000000
namespace XX
open PySem PySem.Spec PyProof.Rows L2
/-! ### values by their data: the type, isinstance -/
def tyOf : PyData → String
  | .none => "NoneType"
  | .bool _ => "bool"
  | .int _ => "int"
  | .str _ => "str"
  | .list _ => "list"
  | .tuple _ => "tuple"
  | .dict _ => "dict"
theorem ty_dp {K : PySem.W.Frag} {H : Hp} {v : V} {d : PyData} (h : Dp K H v d) : TyX K H v (.type (tyOf d)) := by
  cases h with
  | non => exact .base .non
  | bl b => exact .base (.bl b)
  | int i => exact .base (.int i)
  | str x => exact .base (.str x)
  | lst hs _ =>
    rcases hs with (e | ⟨o, e⟩) | ⟨o, its, n, e, c, _⟩
    · exact .base (.lst e)
    · exact .base (.frz e)
    · exact .kList e c
  | tup hs _ =>
    rcases hs with (e | ⟨o, e⟩) | ⟨o, its, n, e, c, _⟩
    · exact .base (.tup e)
    · exact .fTuple e
    · exact .kTuple e c
def isTy (a b : String) : Bool := a == b || (a == "bool" && b == "int")
def knownTy (T : String) : Prop := T = "int" ∨ T = "bool" ∨ T = "str" ∨ T = "tuple" ∨ T = "list"
theorem kitB_is : ∀ a ∈ ["NoneType", "bool", "int", "str", "list", "tuple", "dict"], ∀ b ∈ ["int", "bool", "str", "tuple", "list"], kitB a b = some (isTy a b) := by decide +kernel
theorem tyOf_mem (d : PyData) : tyOf d ∈ ["NoneType", "bool", "int", "str", "list", "tuple", "dict"] := by cases d <;> simp [tyOf]
theorem kit_is {K : PySem.W.Frag} (d : PyData) {T : String} (h : knownTy T) : PySem.W.kitOne K (.type (tyOf d)) (.type T) = some (isTy (tyOf d) T) :=
  kit_ty (kitB_is _ (tyOf_mem d) _ (by rcases h with rfl | rfl | rfl | rfl | rfl <;> simp))
def rIsD (T : String) (K : PySem.W.Frag) : List V → Hp → VK → Prop := fun xs H Q => ∃ (x : V) (d : PyData), xs = [x, .ty T] ∧ Dp K H x d ∧ Q (.bl (isTy (tyOf d) T)) H
theorem CallR.imp {X : Cx} {f : Value} {r r' : List V → Hp → VK → Prop} (h : CallR X f r) (i : ∀ xs H Q, r' xs H Q → r xs H Q) : CallR X f r' := fun pins s σ H xs us Q I rr q => h pins s σ H xs us Q I rr (i _ _ _ q)
theorem call_isD {X : Cx} {T : String} (hT : knownTy T) : CallR X (.builtin "isinstance") (rIsD T X.K) := CallR.imp call_isi fun xs H Q ⟨x, d, e, h, q⟩ => ⟨x, .ty T, _, _, _, e, .ty T, ty_dp h, kit_is d hT, q⟩
theorem ty_int : knownTy "int" := .inl rfl
theorem ty_bool : knownTy "bool" := .inr (.inl rfl)
theorem ty_str : knownTy "str" := .inr (.inr (.inl rfl))
theorem ty_tuple : knownTy "tuple" := .inr (.inr (.inr (.inl rfl)))
theorem pe_ty {X : Cx} {x : Str} {pos : Pos} (T : String) (hg : Gl X x) (hm : X.mg x = none) (hv : bootBuiltins x = some (.type T) := by decide +kernel) (hn : x ≠ "__name__" := by decide) (hd : (x == ("__debug__" : Str)) = false := by decide) : PE X (.Name x pos) (tC (.ty T)) := pe_bltn (v := .ty T) (u := .type T) hg hm hv rfl hn hd
/-- isinstance by a pair of types -/
def rIsD2 (T U : String) (K : PySem.W.Frag) : List V → Hp → VK → Prop := fun xs H Q => ∃ (x : V) (tp : Addr) (d : PyData), xs = [x, .ref tp] ∧ H tp = some (.tup [.ty T, .ty U]) ∧ Dp K H x d ∧ Q (.bl (isTy (tyOf d) T || isTy (tyOf d) U)) H
theorem kit_is2 {K : PySem.W.Frag} (d : PyData) {T U : String} (h : knownTy T) (h2 : knownTy U) : PySem.W.kitAny K (.type (tyOf d)) [.type T, .type U] = some (isTy (tyOf d) T || isTy (tyOf d) U) := by
  refine kitAny_cons (kit_is d h) (fun e => ?_) fun e => by rw [e]; rfl
  rw [e, Bool.false_or]
  refine kitAny_cons (kit_is d h2) (fun e => ?_) fun e => e
  rw [e]
  rfl
theorem call_isD2 {X : Cx} {T U : String} (hT : knownTy T) (hU : knownTy U) : CallR X (.builtin "isinstance") (rIsD2 T U X.K) := CallR.imp call_isiT fun xs H Q ⟨x, tp, d, e, ht, h, q⟩ => ⟨x, tp, _, _, [.type T, .type U], _, e, ht, .cons (.ty _) (.cons (.ty _) .nil), ty_dp h, kit_is2 d hT hU, q⟩
theorem ty_list : knownTy "list" := .inr (.inr (.inr (.inr rfl)))
/-! ### the checks, of data -/
def isWhole : PyData → Bool
  | .int _ => true
  | _ => false
def btw (d : PyData) (lo hi : Int) : Bool := match d with
  | .int i => decide (lo ≤ i) && decide (i ≤ hi)
  | _ => false
def wordS (z : Str) : Bool := decide (1 ≤ z.length) && decide (z.length ≤ 8) && z.cps.toList.all fun c => decide (97 ≤ c ∧ c ≤ 122)
def wordB : PyData → Bool
  | .str z => wordS z
  | _ => false
theorem isTy_int (d : PyData) : isTy (tyOf d) "int" = (match d with | .int _ => true | .bool _ => true | _ => false) := by cases d <;> rfl
theorem isTy_bool (d : PyData) : isTy (tyOf d) "bool" = (match d with | .bool _ => true | _ => false) := by cases d <;> rfl
theorem isTy_str (d : PyData) : isTy (tyOf d) "str" = (match d with | .str _ => true | _ => false) := by cases d <;> rfl
theorem isTy_tuple (d : PyData) : isTy (tyOf d) "tuple" = (match d with | .tuple _ => true | _ => false) := by cases d <;> rfl
theorem isTy_list (d : PyData) : isTy (tyOf d) "list" = (match d with | .list _ => true | _ => false) := by cases d <;> rfl
/-! ### small data -/
mutual
def sm : PyData → Bool
  | .str z => decide (z.length ≤ 1000) && z.cps.all (· < 0x110000)
  | .int i => decide (-10 ≤ i) && decide (i ≤ 1000)
  | .list ds => decide (ds.length ≤ 1000) && sms ds
  | .tuple ds => decide (ds.length ≤ 1000) && sms ds
  | .none => true
  | .bool _ => true
  | .dict _ => false
def sms : List PyData → Bool
  | [] => true
  | d :: ds => sm d && sms ds
end
theorem sms_mem : ∀ {ds : List PyData} {d : PyData}, sms ds = true → d ∈ ds → sm d = true
  | [], d, _, h => nomatch h
  | e :: ds, d, s, h => by
    rw [sms, Bool.and_eq_true] at s
    rcases List.mem_cons.mp h with rfl | h
    · exact s.1
    · exact sms_mem s.2 h
theorem sms_of : ∀ {ds : List PyData}, (∀ d ∈ ds, sm d = true) → sms ds = true
  | [], _ => rfl
  | e :: ds, h => by
    rw [sms, h e (List.mem_cons_self ..), sms_of fun d m => h d (List.mem_cons_of_mem _ m)]
    rfl
theorem sm_str {z : Str} (h : sm (.str z) = true) : z.length ≤ 1000 := by
  rw [sm, Bool.and_eq_true] at h
  exact of_decide_eq_true h.1
mutual
theorem sm_lay : ∀ {d : PyData}, sm d = true → d.canLay0 = true
  | .none, _ => rfl
  | .bool _, _ => rfl
  | .int _, _ => rfl
  | .str z, h => by
    rw [sm, Bool.and_eq_true] at h
    rw [PyData.canLay0]
    exact h.2
  | .list ds, h => by
    rw [sm, Bool.and_eq_true] at h
    rw [PyData.canLay0]
    exact sms_lay h.2
  | .tuple ds, h => by
    rw [sm, Bool.and_eq_true] at h
    rw [PyData.canLay0]
    exact sms_lay h.2
theorem sms_lay : ∀ {ds : List PyData}, sms ds = true → PyData.canLayAll0 ds = true
  | [], _ => rfl
  | d :: ds, h => by
    rw [sms, Bool.and_eq_true] at h
    rw [PyData.canLayAll0, sm_lay h.1, sms_lay h.2]
    rfl
end
theorem sm_shaped {d : PyData} (h : sm d = true) (hd : d.depth ≤ 64) : SeqAt.shaped d = true := by
  unfold SeqAt.shaped
  rw [sm_lay h, decide_eq_true hd]
  rfl
theorem sm_tup {ds : List PyData} (h : sm (.tuple ds) = true) : ds.length ≤ 1000 ∧ sms ds = true := by
  rw [sm, Bool.and_eq_true] at h
  exact ⟨of_decide_eq_true h.1, h.2⟩
theorem sm_lst {ds : List PyData} (h : sm (.list ds) = true) : ds.length ≤ 1000 ∧ sms ds = true := by
  rw [sm, Bool.and_eq_true] at h
  exact ⟨of_decide_eq_true h.1, h.2⟩
def strEq : PyData → PyData → Bool
  | .str x, .str y => x == y
  | _, _ => false
def regsB : PyData → Bool
  | .tuple [a] => wordB a
  | .tuple [a, b] => wordB a && wordB b && !strEq a b
  | _ => false
end XX

set_option maxRecDepth 100000
set_option maxHeartbeats 4000000
namespace XX
open PySem PySem.Spec PyProof.Rows L2
local macro_rules | `(tactic| walk_at "ao") => `(tactic| (delta Addr at *; omega))
/-! ### lists or tuples, by a truth t: a tuple if it is true -/
theorem same_nw {H : Hp} {q : Addr} {o : HO} (e : H q = none) : Same H (upd H q o) := fun b u hb => by
  rw [upd_ne (ne_of_none hb e)]
  exact hb
def SqA (t : Bool) (K : PySem.W.Frag) (H : Hp) (a : Addr) (xs : List V) : Prop :=
  match t with
  | true => SqT K H a xs
  | false => SqL K H a xs
def IsSA (t : Bool) (h : Heap) (a : Addr) (items : Array Value) : Prop :=
  match t with
  | true => h.IsTuple a items
  | false => h.IsList a items
def IsItA (t : Bool) (h : Heap) (it a : Addr) (i : Nat) : Prop :=
  match t with
  | true => h.IsTupleIter it a i
  | false => h.IsListIter it a i
def itObj (t : Bool) (a : Addr) : Obj :=
  match t with
  | true => { cls := .type "tuple_iterator", data := .fields #[.ref a, .int 0 0] }
  | false => { cls := .type "list_iterator", data := .fields #[.ref a, .int 0 0] }
theorem itObj_is {t : Bool} {h : Heap} {it a : Addr} (g : h.get? it = some (itObj t a)) : IsItA t h it a 0 := by
  cases t
  · exact ⟨_, g, rfl, rfl⟩
  · exact ⟨_, g, rfl, rfl⟩
theorem itObj_free (t : Bool) (a : Addr) : (itObj t a).isFreed = false := by cases t <;> rfl
theorem IsItA.at {t : Bool} {h h' : Heap} {it a : Addr} {i : Nat} (x : IsItA t h it a i) (k : ∀ o, h.get? it = some o → h'.get? it = some o) : IsItA t h' it a i := by
  cases t
  · exact Heap.IsListIter.at (show h.IsListIter it a i from x) k
  · exact Heap.IsTupleIter.at (show h.IsTupleIter it a i from x) k
theorem IsItA.obj {t : Bool} {h : Heap} {it a : Addr} {i : Nat} (x : IsItA t h it a i) : ∃ o vs, h.get? it = some o ∧ o.data = .fields vs := by
  cases t
  · obtain ⟨o, ho, _, hd⟩ := (show h.IsListIter it a i from x)
    exact ⟨o, _, ho, hd⟩
  · obtain ⟨o, ho, _, hd⟩ := (show h.IsTupleIter it a i from x)
    exact ⟨o, _, ho, hd⟩
theorem sqA_its {X : Cx} {pins : List (Addr × Obj)} {σ : L2.St} {H : Hp} {s : Shared} {t : Bool} {a : Addr} {xs : List V} (I : Inv X pins σ H s) (h : SqA t X.K H a xs) : ∃ its : List Value, Vals xs its ∧ IsSA t s.heap a its.toArray ∧ a < s.heap.objs.size := by
  cases t
  · obtain ⟨its, rv, p, _⟩ := I.list (show SqL X.K H a xs from h)
    exact ⟨its, rv, p.isList, p.lt⟩
  · obtain ⟨its, rv, p, _⟩ := I.tuple (show SqT X.K H a xs from h)
    obtain ⟨o, ho, _⟩ := id p
    exact ⟨its, rv, p, Heap.lt_size ho⟩
theorem sqA_inj {X : Cx} {pins : List (Addr × Obj)} {σ : L2.St} {H : Hp} {s : Shared} {t : Bool} {a : Addr} {xs ys : List V} (I : Inv X pins σ H s) (h : SqA t X.K H a xs) (h' : SqA t X.K H a ys) : xs = ys := by
  cases t
  · exact I.list_inj h h'
  · exact I.tuple_inj h h'
theorem beginsA (t : Bool) (a : Addr) (items : Array Value) : Begins (.ref a) (itObj t a) (fun h => IsSA t h a items) := by
  cases t
  · exact begins_list a items
  · exact begins_tuple a items
theorem drawsA {prog : Program} {w : World} {A : Around} (t : Bool) (hh : A.handled = none) (it a : Addr) (hne : a ≠ it) (items : Array Value) :
    Draws prog w A it [it, a] items.size (fun i v => items[i]? = some v) (fun i h => IsItA t h it a i ∧ IsSA t h a items) := by
  cases t
  · exact Draws.list hh it a hne items
  · exact Draws.tuple hh it a hne items
/-! ### enumerate of a list or a tuple -/
theorem enum_newB {v : Value} {o : Obj} {G : Heap → Prop} (B : Begins v o G) : Meets (Builtin.«enumerate.__new__» ⟨[.type "enumerate", v], []⟩) (fun _ R s => G s.heap ∧ R (.ok (.ret (.ref (s.heap.push o).objs.size)))
      { s with heap := (s.heap.push o).push { cls := .type "enumerate", data := .fields #[.none, .bool false, .ref s.heap.objs.size, rawInt 0, .none, .none] } }) :=
  .of_wp fun prog w A R s h => by
    obtain ⟨hp, g, d, tk, os⟩ := s
    obtain ⟨hG, q⟩ := h
    have hsub := sub_enumerate
    have q1 : ∀ {A' : Around} {E' Q' : Value → Shared → Prop}, Q' (.ref hp.objs.size) ⟨hp.push o, g, d, tk, os⟩ → wpAny (model prog w) A' (pyIter v) Q' E' ⟨hp, g, d, tk, os⟩ := fun z => B.iter prog w _ _ ⟨hp, g, d, tk, os⟩ _ hG z
    wp_walk
    refine wpAny_stack_any fun st => wpAny_pure ?_
    split
    · rename_i c _ _ _ _ _
      cases hcc : (c == Value.type "enumerate")
      · wp_walk using q1
        exact ⟨_, rfl, q⟩
      · wp_walk using q1
        exact ⟨_, rfl, q⟩
    · wp_walk using q1
      exact ⟨_, rfl, q⟩
theorem call_enumB {prog : Program} {w : World} {A : Around} {E : Value → Shared → Prop} {s : Shared} {v : Value} {o : Obj} {G : Heap → Prop} {Q : Value → Shared → Prop} (B : Begins v o G) (hG : G s.heap)
    (h : ∀ h', IsEnum h' (s.heap.objs.size + 1) s.heap.objs.size 0 .none → h'.get? s.heap.objs.size = some o → h'.objs.size = s.heap.objs.size + 2 → (∀ b u, s.heap.get? b = some u → h'.get? b = some u) → Q (.ref (s.heap.objs.size + 1)) { s with heap := h' }) :
    wpAny (model prog w) A (call (.type "enumerate") [v]) Q E s := by
  refine callType_new F.called_enumerate (by decide) (F.typeCall_enumerate_1 _) (F.newCall_enumerate_1 _) (fun b => F.args_object_init_2 b _) F.entry_enumerate_new (enum_newB B) ⟨hG, ?_⟩
  have hz : (s.heap.push o).objs.size = s.heap.objs.size + 1 := Heap.size_push ..
  have he := Heap.get?_push_size (s.heap.push o) (o := { cls := .type "enumerate", data := .fields #[.none, .bool false, .ref s.heap.objs.size, rawInt 0, .none, .none] }) rfl
  rw [hz] at he
  show _ ∧ _
  rw [hz]
  refine ⟨⟨_, he, rfl⟩, h _ he (Heap.get?_push_of_some _ (Heap.get?_push_size _ B.free)) ?_ (fun b u x => Heap.get?_push_of_some _ (Heap.get?_push_of_some _ x))⟩
  rw [Heap.size_push, hz]
def IteA (t : Bool) (K : PySem.W.Frag) (a : Addr) : It :=
  ⟨fun i H => ∃ (xs : List V) (x : V), SqA t K H a xs ∧ xs[i]? = some x, fun i H v H' => ∃ D x, v = .ref D ∧ H D = none ∧ H' = upd H D (.tup [.int (i : Nat), x]) ∧ ∀ xs, SqA t K H a xs → xs[i]? = some x, fun i H => ∃ xs : List V, SqA t K H a xs ∧ xs.length = i⟩
theorem turn_enumA {P : Program} {w : World} {K : PySem.W.Frag} {elts : List Expr} {kk : Nat} {tpos : Pos} (t : Bool) (a e it : Addr) (hea : e ≠ a) (hia : a ≠ it) (hei : e ≠ it) :
    Turn P w K (.Tuple elts kk tpos) (IteA t K a) [e, it] e (fun i h => (∃ old, IsEnum h e it ((i : Nat) : Int) old) ∧ IsItA t h it a i) where
  mem := List.mem_cons_self ..
  obj := fun i h st b hb => by
    obtain ⟨⟨old, he⟩, hi⟩ := st
    obtain ⟨o, vs, ho, hd⟩ := hi.obj
    rcases List.mem_cons.mp hb with rfl | hb
    · exact ⟨_, he, fun v q => nomatch q⟩
    · rw [List.mem_singleton.mp hb]
      exact ⟨o, ho, fun v q => by rw [hd] at q; cases q⟩
  keep := fun i h h' st k => by
    obtain ⟨⟨old, he⟩, hi⟩ := st
    exact ⟨⟨old, k e (by simp) _ he⟩, hi.at fun o q => k it (by simp) o q⟩
  item := by
    intro X eP ew eK hc i pins s σ H E I hf st hg
    subst eP ew eK
    obtain ⟨⟨old, he⟩, hit⟩ := st
    obtain ⟨xs, x, hq, hx⟩ := hg
    obtain ⟨its, rv, p, hlt⟩ := sqA_its I hq
    obtain ⟨u, hu, ru⟩ := rv.get hx
    have hel : e < s.heap.objs.size := Heap.lt_size he
    have hil : it < s.heap.objs.size := by
      obtain ⟨o, _, ho, _⟩ := hit.obj
      exact Heap.lt_size ho
    have hni : i < its.toArray.size := by
      rw [List.size_toArray]
      exact (List.getElem?_eq_some_iff.mp hu).1
    have hh : X.A.in1.handled = none := I.ok.hd hc
    refine wpAny_pyNext_enum_itemC (drawsA t hh it a hia its.toArray) he ⟨hit, p⟩ hni hei (by simp [hei, hea]) fun z h' tk hz ho hst hT hsz hk => ?_
    have ez : z = u := by
      rw [List.getElem?_toArray, hu] at hz
      exact (Option.some.inj hz).symm
    subst ez
    refine ⟨_, rfl, wpAny_letOwnedTupleGo_enum (s := { s with heap := h', toks := tk + 1 }) ho fun h'' he' sb => ?_⟩
    have hT2 : h''.get? s.heap.objs.size = some { cls := .type "tuple", data := .seq #[.int i tk, z] } := (sb.2 _ (Nat.ne_of_gt hel)).trans hT
    have new : ObjOk X.prog X.w (upd H s.heap.objs.size (.tup [.int (i : Nat), x])) h'' s.heap.objs.size (.tup [.int (i : Nat), x]) := ⟨by show 2 ≤ sizeLine; decide, [.int i tk, z], .cons ⟨_, rfl⟩ (.cons ru .nil), ⟨_, hT2, rfl, _, rfl⟩⟩
    have I1 : Inv X pins σ (upd H s.heap.objs.size (.tup [.int (i : Nat), x])) { s with heap := h'', toks := tk + 1 } := by
      refine I.turnedNew (ch := [e, it]) (fun b ob hb q => ?_) hf (Nat.le_refl _) new
      have b1 : b ≠ e := fun y => hb (by simp [y])
      have b2 : b ≠ it := fun y => hb (by simp [y])
      exact (sb.2 b b1).trans (hk b ob b1 b2 q)
    refine ⟨.ref s.heap.objs.size, _, I1, rfl, ⟨_, x, rfl, I.hok.fresh (Nat.le_refl _), rfl, fun ys hy => ?_⟩, ⟨⟨z, ?_⟩, hst.1.at fun o q => (sb.2 it (Ne.symm hei)).trans q⟩, fun b hb => ?_⟩
    · rw [sqA_inj I hy hq]
      exact hx
    · have e1 : ((i + 1 : Nat) : Int) = (i : Int) + 1 := by omega
      rw [e1]
      exact he'
    · have hb' : b < s.heap.objs.size := by
        rcases List.mem_cons.mp hb with z | hb
        · rw [z]; exact hel
        · rw [List.mem_singleton.mp hb]; exact hil
      rw [upd_ne (Nat.ne_of_lt hb')]
      exact (hf b hb).1
  done := by
    intro X eP ew eK hc i pins s σ H E I hf st hg
    subst eP ew eK
    obtain ⟨⟨old, he⟩, hit⟩ := st
    obtain ⟨xs, hq, hx⟩ := hg
    obtain ⟨its, rv, p, hlt⟩ := sqA_its I hq
    obtain ⟨f0, f1, f2, f3, f4, f5⟩ := hf it (by simp)
    have hn : its.toArray.size = i := by
      rw [List.size_toArray, ← hx]
      exact rv.length.symm
    have hh : X.A.in1.handled = none := I.ok.hd hc
    subst hn
    refine wpAny_pyNext_enum_endD (drawsA t hh it a hia its.toArray) he ⟨hit, p⟩ fun h' eb => ⟨rfl, ?_⟩
    exact I.turned (t' := s.toks) (fun b o hb q => eb b o hb q) f0 f1 f3 f4 f5
  self := fun A i s Q E st h => by
    obtain ⟨⟨_, he⟩, _⟩ := st
    exact wpAny_pyIter_enum he h
def iEnumA (t : Bool) (K : PySem.W.Frag) (ta : TA) : TI := fun σ H R => ta σ H fun vs H1 => ∃ a xs, vs = [.ref a] ∧ SqA t K H1 a xs ∧ R (IteA t K a) H1
theorem pi_enumA {X : Cx} {x : Expr} {ta : TA} {p pos tpos : Pos} {elts : List Expr} {kk : Nat} (t : Bool) (hg : Gl X "enumerate") (hm : X.mg "enumerate" = none) (ha : PA X [x] ta) (hs : starEach [x] X.env = [(false, eval x X.env)] := by rfl) :
    PI X (.Tuple elts kk tpos) (.Call (.Name "enumerate" p) [x] [] pos) (iEnumA t X.K ta) := by
  refine ⟨fun pins s σ H R I h => ?_⟩
  refine Call_ (ld_blt I hg hm boot_enumerate (PyProof.Rows.callWith_type1 (thn (ha.run pos pins s σ H _ I h) fun us s1 ⟨vs, H1, I1, r1, q1⟩ => ?_) hs rfl))
  obtain ⟨a, xs, rfl, hq, q⟩ := q1
  obtain ⟨its, rv, p', hlt⟩ := sqA_its I1 hq
  cases r1 with
  | cons r rr =>
    cases rr
    cases r
    refine call_enumB (beginsA t a its.toArray) p' fun h' he ho hsz hk => wpAny_pyIter_enum he ?_
    have I2 : Inv X pins σ H1 { s1 with heap := h' } := I1.kept (t' := s1.toks) hk
    refine ⟨s1.heap.objs.size + 1, [s1.heap.objs.size + 1, s1.heap.objs.size], _, _, H1, rfl, I2, turn_enumA t a (s1.heap.objs.size + 1) s1.heap.objs.size (by walk_at "ao") (by walk_at "ao") (by walk_at "ao"), ⟨⟨.none, he⟩, itObj_is ho⟩, fun b hb => ?_, q⟩
    have hle : s1.heap.objs.size ≤ b := by
      rcases List.mem_cons.mp hb with z | hb
      · rw [z]; exact Nat.le_add_right _ _
      · rw [List.mem_singleton.mp hb]; exact Nat.le_refl _
    exact I1.fpOk hle (I1.hok.fresh hle)
theorem walk_enumA {t : Bool} {K : PySem.W.Frag} {a : Addr} {xs : List V} : Walk (IteA t K a) xs.length (fun H => SqA t K H a xs) (YPair (fun i => some (.int (i : Nat))) (fun i => xs[i]?)) := by
  refine ⟨fun i H hi h => ⟨xs, xs[i], h, by simp [hi]⟩, fun H h => ⟨xs, h, rfl⟩, fun i H v H' hi h y => ?_⟩
  obtain ⟨D, x, rfl, hD, rfl, hx⟩ := y
  exact ⟨D, _, x, rfl, hD, rfl, rfl, hx xs h⟩
/-! ### zip of two, each a list or a tuple -/
def ItzA (t u : Bool) (K : PySem.W.Frag) (a b : Addr) : It :=
  ⟨fun i H => ∃ (xs ys : List V) (x y : V), SqA t K H a xs ∧ SqA u K H b ys ∧ xs[i]? = some x ∧ ys[i]? = some y,
    fun i H v H' => ∃ D x y, v = .ref D ∧ H D = none ∧ H' = upd H D (.tup [x, y]) ∧ (∀ xs, SqA t K H a xs → xs[i]? = some x) ∧ ∀ ys, SqA u K H b ys → ys[i]? = some y,
    fun i H => ∃ xs ys : List V, SqA t K H a xs ∧ SqA u K H b ys ∧ xs.length = i ∧ ys.length = i⟩
theorem sepA {z TI TO i1 i2 a b : Addr} (h1 : a < i1) (h2 : b < i1) (e2 : i2 = i1 + 1) (e3 : TI = i1 + 2) (e4 : TO = i1 + 3) (e5 : z = i1 + 4) : ZipSep2 z TI TO i1 i2 [i1, a] [i2, b] := by
  subst e2 e3 e4 e5
  constructor <;> (try simp only [List.mem_cons, List.not_mem_nil, or_false, not_or]) <;> first | exact ⟨by walk_at "ao", by walk_at "ao"⟩ | walk_at "ao" | simp
theorem turn_zipA {P : Program} {w : World} {K : PySem.W.Frag} {elts : List Expr} {kk : Nat} {tpos : Pos} (t u : Bool) {a b i1 : Addr} (h1 : a < i1) (h2 : b < i1) :
    Turn P w K (.Tuple elts kk tpos) (ItzA t u K a b) [i1 + 4, i1 + 2, i1 + 3, i1, i1 + 1] (i1 + 4) (fun i h => IsZip h (i1 + 4) (i1 + 2) (i1 + 3) .none ∧ IsTupOf2 h (i1 + 2) (.ref i1) (.ref (i1 + 1)) ∧ (∃ x y, IsTupOf2 h (i1 + 3) x y) ∧ IsItA t h i1 a i ∧ IsItA u h (i1 + 1) b i) where
  mem := List.mem_cons_self ..
  obj := fun i h st c hc => by
    obtain ⟨hz, hI, ⟨x, y, hO⟩, g1, g2⟩ := st
    obtain ⟨o1, v1, e1, d1⟩ := g1.obj
    obtain ⟨o2, v2, e2, d2⟩ := g2.obj
    simp only [List.mem_cons, List.not_mem_nil, or_false] at hc
    rcases hc with rfl | rfl | rfl | rfl | rfl
    · exact ⟨_, hz, fun v q => nomatch q⟩
    · exact ⟨_, hI, fun v q => nomatch q⟩
    · exact ⟨_, hO, fun v q => nomatch q⟩
    · exact ⟨o1, e1, fun v q => by rw [d1] at q; cases q⟩
    · exact ⟨o2, e2, fun v q => by rw [d2] at q; cases q⟩
  keep := fun i h h' st k => by
    obtain ⟨hz, hI, ⟨x, y, hO⟩, g1, g2⟩ := st
    exact ⟨k _ (by simp) _ hz, k _ (by simp) _ hI, ⟨x, y, k _ (by simp) _ hO⟩, g1.at fun o q => k _ (by simp) o q, g2.at fun o q => k _ (by simp) o q⟩
  item := by
    intro X eP ew eK hc i pins s σ H E I hf st hg
    subst eP ew eK
    obtain ⟨hz, hI, ⟨x0, y0, hO⟩, g1, g2⟩ := st
    obtain ⟨xs, ys, x, y, qx, qy, hx, hy⟩ := hg
    obtain ⟨its, rv, p, _⟩ := sqA_its I qx
    obtain ⟨its2, rv2, p2, _⟩ := sqA_its I qy
    obtain ⟨v, hv, ru⟩ := rv.get hx
    obtain ⟨v2, hv2, ru2⟩ := rv2.get hy
    have hzl : i1 + 4 < s.heap.objs.size := Heap.lt_size hz
    have n1 : i < its.toArray.size := by
      rw [List.size_toArray]
      exact (List.getElem?_eq_some_iff.mp hv).1
    have n2 : i < its2.toArray.size := by
      rw [List.size_toArray]
      exact (List.getElem?_eq_some_iff.mp hv2).1
    have hh : X.A.in1.handled = none := I.ok.hd hc
    refine wpAny_pyNext_zipD2_item (sepA h1 h2 rfl rfl rfl rfl) (drawsA t hh i1 a (by walk_at "ao") its.toArray) (drawsA u hh (i1 + 1) b (by walk_at "ao") its2.toArray) hz hI hO ⟨g1, p⟩ ⟨g2, p2⟩ n1 n2 fun z1 z2 h' tk w1 w2 hz' hO' st1 st2 hT hsz hk => ?_
    have ez : z1 = v := by
      rw [List.getElem?_toArray, hv] at w1
      exact (Option.some.inj w1).symm
    have ez2 : z2 = v2 := by
      rw [List.getElem?_toArray, hv2] at w2
      exact (Option.some.inj w2).symm
    subst ez ez2
    refine ⟨_, rfl, wpAny_letOwnedTupleGo_zip (s := { s with heap := h', toks := tk }) hz' fun h'' z'' sb => ?_⟩
    have hT2 : h''.get? s.heap.objs.size = some { cls := .type "tuple", data := .seq #[z1, z2] } := (sb.2 _ (Nat.ne_of_gt hzl)).trans hT
    have new : ObjOk X.prog X.w (upd H s.heap.objs.size (.tup [x, y])) h'' s.heap.objs.size (.tup [x, y]) := ⟨by show 2 ≤ sizeLine; decide, [z1, z2], .cons ru (.cons ru2 .nil), ⟨_, hT2, rfl, _, rfl⟩⟩
    have I1 : Inv X pins σ (upd H s.heap.objs.size (.tup [x, y])) { s with heap := h'', toks := tk } := by
      refine I.turnedNew (ch := [i1 + 4, i1 + 2, i1 + 3, i1, i1 + 1]) (fun c o hb q => ?_) hf (Nat.le_refl _) new
      simp only [List.mem_cons, List.not_mem_nil, or_false, not_or] at hb
      exact (sb.2 c hb.1).trans (hk c o hb.1 hb.2.2.1 hb.2.2.2.1 hb.2.2.2.2 q)
    have ne : ∀ {c : Addr}, c < i1 + 4 → h''.get? c = h'.get? c := fun {c} l => sb.2 c (by walk_at "ao")
    refine ⟨.ref s.heap.objs.size, _, I1, rfl, ⟨_, x, y, rfl, I.hok.fresh (Nat.le_refl _), rfl, fun l hl => ?_, fun l hl => ?_⟩, ⟨z'', ?_, ⟨z1, z2, ?_⟩, st1.1.at fun o q => ?_, st2.1.at fun o q => ?_⟩, fun c hcm => ?_⟩
    · rw [sqA_inj I hl qx]
      exact hx
    · rw [sqA_inj I hl qy]
      exact hy
    · exact (ne (by walk_at "ao")).trans (hk _ _ (by walk_at "ao") (by walk_at "ao") (by walk_at "ao") (by walk_at "ao") hI)
    · exact (ne (by walk_at "ao")).trans hO'
    · exact (ne (by walk_at "ao")).trans q
    · exact (ne (by walk_at "ao")).trans q
    · have hlt : c < s.heap.objs.size := by
        simp only [List.mem_cons, List.not_mem_nil, or_false] at hcm
        clear I1 new hT2 hT
        rcases hcm with z | z | z | z | z <;> rw [z]
        · exact hzl
        all_goals exact Nat.lt_of_le_of_lt (by first | exact Nat.le_add_right _ _ | exact Nat.add_le_add_left (by decide) _) hzl
      rw [upd_ne (Nat.ne_of_lt hlt)]
      exact (hf c hcm).1
  done := by
    intro X eP ew eK hc i pins s σ H E I hf st hg
    subst eP ew eK
    obtain ⟨hz, hI, ⟨x0, y0, hO⟩, g1, g2⟩ := st
    obtain ⟨xs, ys, qx, qy, lx, ly⟩ := hg
    obtain ⟨its, rv, p, _⟩ := sqA_its I qx
    obtain ⟨its2, rv2, p2, _⟩ := sqA_its I qy
    have n1 : i = its.toArray.size := by
      rw [List.size_toArray, ← lx]
      exact rv.length
    have n2 : i = its2.toArray.size := by
      rw [List.size_toArray, ← ly]
      exact rv2.length
    have hh : X.A.in1.handled = none := I.ok.hd hc
    refine wpAny_pyNext_zipD2_end (sepA h1 h2 rfl rfl rfl rfl) (drawsA t hh i1 a (by walk_at "ao") its.toArray) (drawsA u hh (i1 + 1) b (by walk_at "ao") its2.toArray) hz hI hO ⟨g1, p⟩ ⟨g2, p2⟩ (by walk_at "ao") (by walk_at "ao") (.inl n1) fun h' tk hk => ⟨rfl, ?_⟩
    refine I.turnedL (ch := [i1 + 4, i1 + 2, i1 + 3, i1, i1 + 1]) (fun c o hb q => ?_) hf
    simp only [List.mem_cons, List.not_mem_nil, or_false, not_or] at hb
    exact hk c o hb.1 hb.2.2.1 hb.2.2.2.1 hb.2.2.2.2 q
  self := fun A i s Q E st h => wpAny_pyIter_zip st.1 h
def iZipB (t u : Bool) (K : PySem.W.Frag) (ta : TA) : TI := fun σ H R => ta σ H fun vs H1 => ∃ a b xs ys, vs = [.ref a, .ref b] ∧ SqA t K H1 a xs ∧ SqA u K H1 b ys ∧ R (ItzA t u K a b) H1
theorem pi_zipB {X : Cx} {x x2 : Expr} {ta : TA} {p pos tpos : Pos} {elts : List Expr} {kk : Nat} (t u : Bool) (hg : Gl X "zip") (hm : X.mg "zip" = none) (ha : PA X [x, x2] ta)
    (hs : starEach [x, x2] X.env = (false, eval x X.env) :: starEach [x2] X.env := by rfl) (hpl : (backTo pos (starEach [x2] X.env)).any (·.1) = false := by rfl) : PI X (.Tuple elts kk tpos) (.Call (.Name "zip" p) [x, x2] [] pos) (iZipB t u X.K ta) := by
  refine ⟨fun pins s σ H R I h => ?_⟩
  refine Call_ (ld_blt I hg hm PyProof.Rows.boot_zip (PyProof.Rows.callWith_type1 (thn (ha.run pos pins s σ H _ I h) fun us s1 ⟨vs, H1, I1, r1, q1⟩ => ?_) hs hpl))
  obtain ⟨a, b, xs, ys, rfl, qx, qy, q⟩ := q1
  obtain ⟨its, rv, p1, l1⟩ := sqA_its I1 qx
  obtain ⟨its2, rv2, p2, l2⟩ := sqA_its I1 qy
  cases r1 with
  | cons r rr =>
    cases rr with
    | cons r' rr =>
      cases rr
      cases r
      cases r'
      refine zip_begins2 (beginsA t a its.toArray) (beginsA u b its2.toArray) p1 p2 fun h' hz hI hO k1 k2 hsz hk => wpAny_pyIter_zip hz ?_
      have I2 : Inv X pins σ H1 { s1 with heap := h' } := I1.kept (t' := s1.toks) hk
      refine ⟨s1.heap.objs.size + 4, _, _, _, H1, rfl, I2, turn_zipA t u l1 l2, ⟨hz, hI, ⟨_, _, hO⟩, itObj_is k1, itObj_is k2⟩, fun c hcm => ?_, q⟩
      have hle : s1.heap.objs.size ≤ c := by
        simp only [List.mem_cons, List.not_mem_nil, or_false] at hcm
        walk_at "ao"
      exact I1.fpOk hle (I1.hok.fresh hle)
theorem walk_zipB {t u : Bool} {K : PySem.W.Frag} {a b : Addr} {xs ys : List V} (e : xs.length = ys.length) : Walk (ItzA t u K a b) xs.length (fun H => SqA t K H a xs ∧ SqA u K H b ys) (YPair (fun i => xs[i]?) (fun i => ys[i]?)) := by
  refine ⟨fun i H hi h => ⟨xs, ys, xs[i], ys[i], h.1, h.2, by simp [hi], by simp [e ▸ hi]⟩, fun H h => ⟨xs, ys, h.1, h.2, rfl, e.symm⟩, fun i H v H' hi h y => ?_⟩
  obtain ⟨D, x, y, rfl, hD, rfl, hx, hy⟩ := y
  exact ⟨D, x, y, rfl, hD, rfl, hx xs h.1, hy ys h.2⟩
/-! ### comprehensions whose turns only bring new things: turn i gives u i, or nothing -/
theorem same_mut {H G : Hp} {D : Addr} {o : HO} (h : Same H G) (e : H D = none) : Same H (upd G D o) := fun b u hb => by
  rw [upd_ne (ne_of_none hb e)]
  exact h b u hb
theorem range_filterMap (u : Nat → Option V) (i : Nat) : (List.range (i + 1)).filterMap u = (List.range i).filterMap u ++ (u i).toList := by
  rw [List.range_succ, List.filterMap_append]
  congr 1
theorem lcw_gen {J : It} {n : Nat} {G : Hp → Prop} {Y : Nat → Hp → V → Hp → Prop} (w : Walk J n G Y) {g : TG} {tt : TT} {te : TE} {vs : List Nat} {σ : L2.St} {H : Hp} {Q : VK} (u : Nat → Option V) (hn : n ≤ 1000) (hG : ∀ H', Same H H' → G H')
    (hs : ∀ (i : Nat) (x : V) (G1 G2 : Hp) (Nx : Hp → Prop) (Q' : VK), i < n → Same H G1 → Y i G1 x G2 → (∀ y H4, u i = some y → Same G1 H4 → Q' y H4) → (u i = none → ∀ H3, Same G1 H3 → Nx H3) →
      g x (wipe σ vs) G2 fun σ2 H2 => wipe σ2 vs = wipe σ vs ∧ tt σ2 H2 fun b H3 => if b = true then te σ2 H3 Q' else Nx H3)
    (hd : ∀ D G', Same H G' → H D = none → G' D = some (.lst ((List.range n).filterMap u)) → Q (.ref D) G') : LcW J g tt te vs σ H Q := by
  have ll : ∀ i, ((List.range i).filterMap u).length ≤ i := fun i => by
    have e := List.length_filterMap_le u (List.range i)
    rw [List.length_range] at e
    exact e
  refine lcw_it w (fun D i G' => Same H G' ∧ G' D = some (.lst ((List.range i).filterMap u))) (fun D hD => ⟨same_nw hD, upd_same⟩) (fun D i G' _ h => hG G' h.1) (fun D i x G1 G2 hD hi hP hy => ?_) fun D G' hD hP => hd D G' hP.1 hD hP.2
  refine hs i x G1 G2 _ _ hi hP.1 hy (fun y H4 hu h4 => ?_) fun hu H3 h3 => ?_
  · refine ⟨_, h4 D _ hP.2, ?_, same_mut (hP.1.trans h4) hD, ?_⟩
    · have e1 := ll i
      have e2 := sizeLine_eq
      omega
    · rw [upd_same, range_filterMap, hu, Option.toList_some]
  · refine ⟨hP.1.trans h3, ?_⟩
    rw [h3 D _ hP.2, range_filterMap, hu, Option.toList_none, List.append_nil]
end XX

set_option maxRecDepth 100000
set_option maxHeartbeats 4000000
namespace XX
open PySem PySem.Spec PyProof.Rows L2
/-! ### list(text) -/
theorem paired_of {α β : Type} {F : α → β → Prop} : ∀ {l : List α} {m : List β}, l.length = m.length → (∀ (i : Nat) a b, l[i]? = some a → m[i]? = some b → F a b) → Paired F l m
  | [], [], _, _ => .nil
  | [], _ :: _, e, _ => nomatch e
  | _ :: _, [], e, _ => nomatch e
  | a :: l, b :: m, e, h => .cons (h 0 a b rfl rfl) (paired_of (Nat.succ.inj e) fun i a b h1 h2 => h (i + 1) a b h1 h2)
def rListStr : List V → Hp → VK → Prop := fun xs H Q => ∃ z : Str, xs = [.str z] ∧ z.length ≤ sizeLine ∧ ∀ l, H l = none → Q (.ref l) (upd H l (.lst (z.cps.toList.map fun c => V.str ⟨#[c]⟩)))
theorem call_listStr {X : Cx} (hc : X.calm = true) : CallR X (.type "list") rListStr := by
  intro pins s σ H xs us Q I r h
  obtain ⟨z, rfl, hz, q⟩ := h
  obtain ⟨u, rfl, t, rfl⟩ := vals1 r
  refine call_list_str (show X.A.handled = none from I.ok.hd hc) z t (fun h' tk acc' c' hk hS hi => ?_) hz
  have hv : Vals (z.cps.toList.map fun c => V.str ⟨#[c]⟩) acc'.toList := by
    refine paired_of ?_ fun i a b h1 h2 => ?_
    · rw [List.length_map, Array.length_toList, Array.length_toList, hi.1]
    · rw [List.getElem?_map] at h1
      obtain ⟨c, hc, rfl⟩ := Option.map_eq_some_iff.mp h1
      rw [Array.getElem?_toList] at hc h2
      obtain ⟨c2, u, e1, e2⟩ := hi.2 i b h2
      rw [hc] at e1
      cases e1
      exact ⟨u, e2⟩
  have ok : ObjOk X.prog X.w (upd H s.heap.objs.size (.lst (z.cps.toList.map fun c => V.str ⟨#[c]⟩))) h' s.heap.objs.size (.lst (z.cps.toList.map fun c => V.str ⟨#[c]⟩)) := by
    refine ⟨?_, acc'.toList, c', hv, hS⟩
    rw [List.length_map]
    exact hz
  exact ⟨.ref s.heap.objs.size, _, I.laid (t' := tk) hk (Nat.le_refl _) ok, rfl, q _ (I.hok.fresh (Nat.le_refl _))⟩
end XX

set_option maxRecDepth 100000
set_option maxHeartbeats 4000000
namespace XX
open PySem PySem.Spec PyProof.Rows L2
/-! ### data, or an empty dict -/
def DpE (K : PySem.W.Frag) (H : Hp) (v : V) (d : PyData) : Prop := Dp K H v d ∨ (d = .dict [] ∧ ∃ a, v = .ref a ∧ H a = some (.dK []))
theorem ty_dpE {K : PySem.W.Frag} {H : Hp} {v : V} {d : PyData} (h : DpE K H v d) : TyX K H v (.type (tyOf d)) := by
  rcases h with h | ⟨rfl, a, rfl, h⟩
  · exact ty_dp h
  · exact .base (.dK h)
def rIsE2 (T U : String) (K : PySem.W.Frag) : List V → Hp → VK → Prop := fun xs H Q => ∃ (x : V) (tp : Addr) (d : PyData), xs = [x, .ref tp] ∧ H tp = some (.tup [.ty T, .ty U]) ∧ DpE K H x d ∧ Q (.bl (isTy (tyOf d) T || isTy (tyOf d) U)) H
theorem call_isE2 {X : Cx} {T U : String} (hT : knownTy T) (hU : knownTy U) : CallR X (.builtin "isinstance") (rIsE2 T U X.K) := CallR.imp call_isiT fun xs H Q ⟨x, tp, d, e, ht, h, q⟩ => ⟨x, tp, _, _, [.type T, .type U], _, e, ht, .cons (.ty _) (.cons (.ty _) .nil), ty_dpE h, kit_is2 d hT hU, q⟩
/-! ### a new instance of an own class, by keywords, where the call may raise at the slots -/
def tMakeS (C : Addr) (n m : Nat) (sp : Sp) (gV : List V → List V → List V) (E : L2.St → XK) (t tk : TA) : TE := fun σ H Q => t σ H fun vs H1 => tk σ H1 fun zs H2 => vs.length = n ∧ zs.length = m ∧
  ∀ x dx, H2 x = none → H2 dx = none → dx ≠ x → sp (gV (.ref x :: vs) zs) (upd (upd H2 dx (.own x)) x (.ins C dx [])) (fun v H3 => v = .non ∧ Q (.ref x) H3) (E σ)
section
variable {X : Cx} {CX : CXT} {k n : Nat} {f C : Addr} {fd : FuncData} {ps ks : List Str} {sp : Sp} {E : L2.St → XK} {x : Str} {p pos : Pos} {e : Expr} {es : List Expr} {kws : List Keyword} {t tk : TA} {g : List Value → List Value → List Value} {gV : List V → List V → List V}
theorem run_makeS {pins : List (Addr × Obj)} {σ : L2.St} {H : Hp} {s : Shared} {Q : VK} {us ws : List Value} {vs zs : List V} (M : Mk X.K C f) (F : FnOk X.prog X.w X.K X.mg X.base CX k f fd ps sp) (hr : Room (k + 1) X.A) (hb : KBn X.K fd ps (n + 1) ks g gV)
    (hx : PassesAt CX X σ (E σ)) (I : Inv X pins σ H s) (r : Vals vs us) (rz : Vals zs ws) (l1 : vs.length = n) (l2 : zs.length = ks.length)
    (h : ∀ x dx, H x = none → H dx = none → dx ≠ x → sp (gV (.ref x :: vs) zs) (upd (upd H dx (.own x)) x (.ins C dx [])) (fun v H2 => v = .non ∧ Q (.ref x) H2) (E σ))
    (hfr : ∀ (pins : List (Addr × Obj)) (s : Shared) (H' : Hp) (e : Value) (s' : Shared), Inv X pins σ H' s → CX X.stack H' s (E σ) e s' → X.xe e s') :
    wpAny (model X.prog X.w) X.A (call (.ref C) us (ks.zip ws)) (EP X pins σ Q) X.xe s := by
  have fr : ∀ {b : Nat}, s.heap.objs.size ≤ b → H b = none := fun hle => I.hok.fresh hle
  have hq := h (s.heap.objs.size + 1) s.heap.objs.size (fr (Nat.le_succ _)) (fr (Nat.le_refl _)) (Nat.ne_of_lt (Nat.lt_succ_self _))
  have I2 := Inv.made (C := C) I
  have r2 := hb.rel (Paired.cons (F := RelV) (show RelV (.ref (s.heap.objs.size + 1)) (Value.ref (s.heap.objs.size + 1)) from rfl) r) rz
  have lu : (Value.ref (s.heap.objs.size + 1) :: us).length = n + 1 := congrArg Nat.succ (r.length.symm.trans l1)
  have to := hb.to _ _ ws I2.kIn lu (rz.length.symm.trans l2)
  have run := F.run _ X.stack _ _ ⟨Value.ref (s.heap.objs.size + 1) :: us, ks.zip ws⟩ _ _ _ (E σ) (hr.make C us (ks.zip ws)) (I2.env0.make C us (ks.zip ws)) to r2 hq
  refine wpAny_call (make_map (f := f) I.kIn M.makes M.init (beq_iff_eq.mp M.fn) (codeAny_mono run fun rr s' z => ?_))
  match rr, z with
  | .error er, z => exact hfr pins _ _ er s' I2 z
  | .ok (.ret u), z =>
    obtain ⟨v, H', I3, rv, ev, q3⟩ := I2.after z
    subst ev
    exact ⟨rv, ⟨.ref (s.heap.objs.size + 1), H', I3, rfl, q3⟩⟩
  | .ok .next, z => exact False.elim z
  | .ok .brk, z => exact False.elim z
  | .ok .cont, z => exact False.elim z
theorem pe_makeS (M : Mk X.K C f) (F : FnOk X.prog X.w X.K X.mg X.base CX k f fd ps sp) (hr : Room (k + 1) X.A) (hg : Gl X x) (hm : X.mg x = some (.ref C)) (hb : KBn X.K fd ps (n + 1) ks g gV) (hx : ∀ σ, PassesAt CX X σ (E σ)) (ha : PA X (e :: es) t) (hkw : PK X kws tk)
    (h1 : (backToKw pos (keywordEach kws X.env)).all (·.1.isSome) = true := by rfl) (h2 : (backToKw pos (keywordEach kws X.env)).filterMap (·.1) = ks := by rfl) (h3 : (x == ("__debug__" : Str)) = false := by decide)
    (h4 : starEach (e :: es) X.env = (false, eval e X.env) :: starEach es X.env := by rfl) (h5 : ((backTo pos (starEach (e :: es) X.env)).any (·.1) || (backToKw pos (keywordEach kws X.env)).any (·.1.isNone)) = false := by rfl) :
    PE X (.Call (.Name x p) (e :: es) kws pos) (tMakeS C n ks.length sp gV E t tk) := by
  refine ⟨fun pins s σ H Q I h => wpAny_Call_Name_kw (ld_glob I hg hm ?_ h3)⟩
  refine PySem.W.callWith_KW (h₀ := X.base) I.ok.mod.kin M.kp h1 (thn (ha.run pos pins s σ H _ I h) fun us s1 ⟨vs, H1, I1, r, q⟩ => ?_) h5 h4
  refine thn (hkw.run pos pins s1 σ H1 _ I1 q) fun ws s2 ⟨zs, H2, I2, rz, l1, l2, q2⟩ => ⟨I2.kIn, ?_⟩
  rw [h2]
  exact run_makeS M F hr hb (hx σ) I2 r rz l1 l2 q2 fun pins s H' er s' I z => hx σ pins H' s er s' I z
end
end XX

set_option maxRecDepth 100000
set_option maxHeartbeats 4000000
namespace XX
open PySem PySem.Spec PyProof.Rows L2
/-! ### len(set(..)) of a tuple of texts -/
/-- what is in the set behind the first i texts, and how many -/
def metS (xs : List Str) : Nat → (Str → Bool) × Nat
  | 0 => (fun _ => false, 0)
  | i + 1 => ((fun k => (metS xs i).1 k || decide (k = xs.getD i Str.empty)), if (metS xs i).1 (xs.getD i Str.empty) then (metS xs i).2 else (metS xs i).2 + 1)
theorem metS_le (xs : List Str) : ∀ i, (metS xs i).2 ≤ i
  | 0 => Nat.le_refl 0
  | i + 1 => by
    have e := metS_le xs i
    unfold metS
    dsimp only
    by_cases c : (metS xs i).1 (xs.getD i Str.empty) = true
    · rw [if_pos c]
      omega
    · rw [if_neg c]
      omega
section
variable {prog : Program} {w : World} {A : Around} {R : Result → Shared → Prop} {I : Addr} {fp wr : List Addr} {G : Array GenState → Array GenState → Prop} {n : Nat} {P : Nat → Value → Prop} {St : Nat → Shared → Prop}
theorem loopSt (W : WalksS prog w A.in1 I fp wr G n P St) (D : Addr) (nD : D ∉ fp) (xs : List Str) (bn : n + 1 < scanBound) (val : ∀ i v, P i v → ∃ t, v = .str (xs.getD i Str.empty) t) :
    ∀ (k i : Nat) (s : Shared), n - i = k → i ≤ n → St i s → s.heap.SetOf (PySem.strKind prog w) D (metS xs i).1 (metS xs i).2 →
      (∀ s', Moved (D :: wr) G s s' → s'.heap.SetOf (PySem.strKind prog w) D (metS xs n).1 (metS xs n).2 → R (.ok (.ret .none)) s') → codeAny (model prog w) A (.builtin "set.update.loop" ⟨[.ref D, .ref I], []⟩) R s := by
  have nw : D ∉ wr := fun h => nD (W.sub _ h)
  have sb : ∀ b ∈ wr, b ∈ D :: wr := fun b h => List.mem_cons_of_mem _ h
  have stays : ∀ {s s' : Shared} {S : Str → Bool} {c : Nat}, Moved wr G s s' → s.heap.SetOf (PySem.strKind prog w) D S c → s'.heap.SetOf (PySem.strKind prog w) D S c := fun m h => by
    obtain ⟨o, es, ep, tb, ho, r⟩ := h
    exact ⟨o, es, ep, tb, m.heap D _ nw ho, r⟩
  intro k
  induction k with
  | zero =>
    intro i s ek le st hS q
    obtain rfl : i = n := by omega
    refine codeAny_builtin PyProof.Rows.F.entry_set_update_loop (by
      rw [Around.under_plainId PyProof.Rows.F.plain_set_update_loop _]
      refine wpAny_bind (m := pyNext (.ref I)) (W.done s _ _ st fun s' m => ?_)
      exact wpAny_pure (q s' (m.mono sb) (stays m hS)))
  | succ k ih =>
    intro i s ek le st hS q
    have lt : i < n := by omega
    refine codeAny_builtin PyProof.Rows.F.entry_set_update_loop ?_
    rw [Around.under_plainId PyProof.Rows.F.plain_set_update_loop _]
    refine wpAny_bind (m := pyNext (.ref I)) (W.item i s _ _ lt st fun v s' pv st' m => ?_)
    obtain ⟨t, rfl⟩ := val i v pv
    have h1 := stays m hS
    refine wpAny_bind (m := holding [Value.str (xs.getD i Str.empty) t] (setAdd D (.str (xs.getD i Str.empty) t))) (wpAny_holding ?_)
    unfold setAdd
    refine wpAny_holding (wpAny_bind ((PySem.strKind prog w).pyHash (k := xs.getD i Str.empty) (strKind_is _ _ _ _) ?_))
    have room : (metS xs i).2 + 1 < scanBound := by
      have e := metS_le xs i
      omega
    refine wpAny_setAddHashed_of (knd := PySem.strKind prog w) (s := { s' with toks := s'.toks + 1 }) (strKind_is _ _ _ _) rfl h1 room fun h' bt h2 => ?_
    have ne : ∀ {b : Addr}, b ≠ D → h'.get? b = s'.heap.get? b := fun {b} nb => bt.2 b nb
    refine wpAny_pure ⟨plainId_quiet PyProof.Rows.F.plain_set_update_loop _, ih (i + 1) _ (by omega) lt ?_ h2 fun s2 m2 q2 => ?_⟩
    · refine W.frame _ s' _ _ st' (Nat.le_succ _) fun b mb o e => ?_
      rw [ne fun z => nD (by rw [← z]; exact mb)]
      exact e
    · refine q s2 (Moved.trans W.gtrans ((m.mono sb).then_heap (Nat.le_succ _) fun b o nb e => ?_) m2) q2
      rw [ne fun z => nb (by rw [z]; exact List.mem_cons_self)]
      exact e
end
section
variable {prog : Program} {w : World} {A : Around} {E : Value → Shared → Prop} {s : Shared}
theorem call_setSt {l : Addr} {items : Array Value} {xs : List Str} {Q : Value → Shared → Prop} (hh : A.handled = none) (hl : s.heap.IsTuple l items) (hi : PyProof.Rows.StrsAre items.toList xs) (hn : items.size + 1 < scanBound)
    (h : ∀ (h' : Heap) (tk : Nat), h'.SetOf (PySem.strKind prog w) s.heap.objs.size (metS xs items.size).1 (metS xs items.size).2 → (∀ b o, b < s.heap.objs.size → s.heap.get? b = some o → h'.get? b = some o) → Q (.ref s.heap.objs.size) { s with heap := h', toks := tk }) :
    wpAny (model prog w) A (call (.type "set") [.ref l]) Q E s := by
  obtain ⟨c, tl, mro⟩ := PySem.F.called_set.mro
  have f1 := PySem.F.called_set.made
  have f2 := PySem.F.called_set.sub
  have f3 := PySem.F.called_set.notType
  have f4 := PySem.F.called_set.canCreate
  have f5 := PySem.F.typeCall_set_1 (.ref l)
  refine wpAny_call (codeAny_of_tree (by
    show wpAny _ _ (callAny (.type "set") _) _ _ _
    refine wpAny_pure ⟨Code.quiet_builtin _ (by decide +kernel), codeAny_builtin PySem.F.entry_type_call ?_⟩
    rw [Around.under_plain (weight_type_call_type "set" [.ref l] []) rfl]
    repeat (any_goals (first | assumption | wp_step))
    refine codeAny_mono (code_set_new_1 (.ref l) (E := E) (Q₁ := fun ob s₁ => ∃ q : Bool, ob = .ref s.heap.objs.size ∧ s₁ = { s with heap := s.heap.push { cls := .type "set", dict := none, data := .set #[] 0 (.fresh 0 0 q) } }) fun q => ⟨q, rfl, rfl⟩) fun r s₁ hr => ?_
    match r, hr with
    | .error e, hr => exact hr
    | .ok .next, hr => exact hr.elim
    | .ok .brk, hr => exact hr.elim
    | .ok .cont, hr => exact hr.elim
    | .ok (.ret ob), ⟨q, eo, es⟩ =>
      subst eo es
      have g0 : (s.heap.push { cls := .type "set", dict := none, data := .set #[] 0 (.fresh 0 0 q) }).get? s.heap.objs.size = some { cls := .type "set", dict := none, data := .set #[] 0 (.fresh 0 0 q) } := Heap.get?_push_size _ rfl
      have ty : Shared.TypeIs { s with heap := s.heap.push { cls := .type "set", dict := none, data := .set #[] 0 (.fresh 0 0 q) } } (.ref s.heap.objs.size) "set" := ⟨_, g0, rfl⟩
      have i1 := PySem.F.called_set.init.lookup
      have i2 := PySem.F.called_set.init.bind (.ref s.heap.objs.size)
      repeat (any_goals (first | assumption | wp_step))
      refine codeAny_mono (codeAny_call_builtin (R := wants (fun r s₂ => r = .none ∧ ∃ h' tk, s₂ = { s with heap := h', toks := tk } ∧ h'.SetOf (PySem.strKind prog w) s.heap.objs.size (metS xs items.size).1 (metS xs items.size).2 ∧
          (∀ b o, b < s.heap.objs.size → s.heap.get? b = some o → h'.get? b = some o)) E) PySem.F.called_set.init.plain PySem.F.entry_set_init (check_set_init_1 ty ?_)) fun r₂ s₂ hr₂ => ?_
      · obtain ⟨⟨oc, od, odt, osl⟩, hol, hcl, nl, hdl⟩ := hl
        simp only at hcl hdl
        subst hcl hdl
        have g1 : (s.heap.push { cls := .type "set", dict := none, data := .set #[] 0 (.fresh 0 0 q) }).get? l = some { cls := .type "tuple", dict := od, data := .seq items nl, slots := osl } := Heap.get?_push_of_some _ hol
        have s1 := PySem.F.sub_tuple_set
        have s2 := PySem.F.sub_tuple_frozenset
        have s3 : (Value.type "tuple" == Value.type "dict") = false := by decide
        have t1 : (s.heap.push { cls := .type "set", dict := none, data := .set #[] 0 (.fresh 0 0 q) }).IsTuple l items := ⟨_, g1, rfl, nl, rfl⟩
        unfold Builtin.«set.__init__» noKeywords Builtin.Frozenset.updateFrom
        generalize hPI : pyIter = PI
        wp_walk
        subst hPI
        refine wpAny_pyIter_tuple t1 (wpAny_bind (wpAny_runValue ?_))
        have lS : l < s.heap.objs.size := Heap.lt_size hol
        have zp : (s.heap.push { cls := .type "set", dict := none, data := .set #[] 0 (.fresh 0 0 q) }).objs.size = s.heap.objs.size + 1 := Heap.size_push ..
        have h3 : A.in1.in1.in1.handled = none := by simp [hh]
        have nI : l ≠ (s.heap.push { cls := .type "set", dict := none, data := .set #[] 0 (.fresh 0 0 q) }).objs.size := by
          rw [zp]
          exact Nat.ne_of_lt (Nat.lt_succ_of_lt lS)
        have nf : s.heap.objs.size ∉ [(s.heap.push { cls := .type "set", dict := none, data := .set #[] 0 (.fresh 0 0 q) }).objs.size, l] := by
          rw [zp]
          simp only [List.mem_cons, List.not_mem_nil, or_false, not_or]
          exact ⟨Nat.ne_of_lt (Nat.lt_succ_self _), Nat.ne_of_gt lS⟩
        refine loopSt ((Walks.tuple h3 _ l nI items).toS) s.heap.objs.size nf xs hn (fun i v hv => SS.strs_at hi i v (by rw [Array.getElem?_toList]; exact hv)) (items.size - 0) 0 _ (by omega) (Nat.zero_le _) ⟨⟨_, Heap.get?_push_size _ rfl, rfl, rfl⟩, t1.push _⟩ ?_ ?_
        · have g2 : ((s.heap.push { cls := .type "set", dict := none, data := .set #[] 0 (.fresh 0 0 q) }).push { cls := .type "tuple_iterator", data := .fields #[.ref l, .int 0 0] }).get? s.heap.objs.size = some { cls := .type "set", dict := none, data := .set #[] 0 (.fresh 0 0 q) } := Heap.get?_push_of_some _ g0
          exact SetOf_congr ((setObjOf_fresh (knd := PySem.strKind prog w) q).setOf g2 (by unfold scanBound; omega)) (fun _ => rfl) rfl
        · rintro ⟨h', g', d', tk', os'⟩ m hS
          obtain rfl : g' = s.gens := m.gens
          obtain rfl : d' = s.drawn := m.drawn
          obtain rfl : os' = s.os := m.os
          show wpAny _ _ _ _ _ _
          refine wpAny_pure ?_
          show wpAny _ _ (ret Value.none) _ _ _
          refine wpAny_pure ⟨rfl, h', tk', rfl, hS, fun b o hb e => ?_⟩
          refine m.heap b o ?_ (Heap.get?_push_of_some _ (Heap.get?_push_of_some _ e))
          rw [zp]
          simp only [List.mem_cons, List.not_mem_nil, or_false, not_or]
          exact ⟨Nat.ne_of_lt hb, Nat.ne_of_lt (Nat.lt_succ_of_lt hb)⟩
      · match r₂, hr₂ with
        | .error e, hr₂ => exact hr₂
        | .ok .next, hr₂ => exact hr₂.elim
        | .ok .brk, hr₂ => exact hr₂.elim
        | .ok .cont, hr₂ => exact hr₂.elim
        | .ok (.ret r), ⟨er, h', tk, es, hS, hk⟩ =>
          subst er es
          repeat (any_goals (first | assumption | wp_step))
          exact h _ _ hS hk))
end
end XX

set_option maxRecDepth 100000
set_option maxHeartbeats 4000000
namespace XX
open PySem PySem.Spec PyProof.Rows L2
def tLenSetS (K : PySem.W.Frag) (ta : TE) : TE := fun σ H Q => ta σ H fun x H1 => ∃ (l : Addr) (xs : List Str), x = .ref l ∧ SqT K H1 l (xs.map V.str) ∧ xs.length ≤ 1000 ∧ Q (.int ((metS xs xs.length).2 : Nat)) H1
theorem pe_lenSetS {X : Cx} {a : Expr} {ta : TE} {p p2 q pos : Pos} (hc : X.calm = true) (hg : Gl X "len") (hm : X.mg "len" = none) (hg2 : Gl X "set") (hm2 : X.mg "set" = none) (ha : PE X a ta) (na : starEach [a] X.env = (false, eval a X.env) :: starEach [] X.env := by rfl) :
    PE X (.Call (.Name "len" p) [.Call (.Name "set" p2) [a] [] q] [] pos) (tLenSetS X.K ta) := by
  refine ⟨fun pins s σ H Q I h => Call_ (ld_blt I hg hm boot_len (callWith_builtin1 (args_cons (Call_ (ld_blt I hg2 hm2 boot_set ?_)) rfl) rfl rfl))⟩
  refine callWith_type1 (args_cons (thn (ha.run pins s σ H _ I h) fun v s1 ⟨x, H1, I1, r1, q1⟩ => args_nil ?_) na) na rfl
  obtain ⟨l, xs, rfl, hq, h1, q1⟩ := q1
  cases r1
  obtain ⟨its, r, pl, hz⟩ := I1.tuple hq
  have el : its.toArray.size = xs.length := by rw [List.size_toArray, ← r.length, List.length_map]
  refine call_setSt (I1.ok.hd hc) pl (by simpa using strsAre_of r) (by rw [el]; unfold scanBound; omega) fun h' tk hS hk => args_nil ?_
  rw [el] at hS
  have I2 : Inv X pins σ H1 { s1 with heap := h', toks := tk } := I1.kept fun b o e => hk b o (Heap.lt_size e) e
  obtain ⟨o, es, ep, t, ho, hex, hd, _, _, _, hf, hn⟩ := hS
  have le := metS_le xs xs.length
  exact call_len_set ho hex hd hf (by rw [hn]; omega) ⟨.int (metS xs xs.length).2, H1, I2.tok _, ⟨_, by rw [hn]⟩, q1⟩
theorem metS_one (a : Str) : (metS [a] [a].length).2 = 1 := rfl
theorem metS_two (a b : Str) : (metS [a, b] [a, b].length).2 = if a = b then 1 else 2 := by
  show (if (false || decide (b = a)) = true then 1 else 2) = _
  rw [Bool.false_or]
  by_cases c : a = b
  · rw [if_pos c, if_pos (decide_eq_true c.symm)]
  · rw [if_neg c, if_neg]
    intro h
    exact c (of_decide_eq_true h).symm
end XX
namespace XX
open PySem PySem.Spec PyProof.Rows L2
/-- len of a list or tuple, within a comprehension -/
def rLenK (K : PySem.W.Frag) : List V → Hp → VK → Prop := fun xs H Q => ∃ (p : Addr) (ys : List V), xs = [.ref p] ∧ (SqL K H p ys ∨ SqT K H p ys) ∧ Q (.int ys.length) H
theorem call_lenK {X : Cx} (K : PySem.W.Frag) (e : X.K = K) : CallR X (.builtin "len") (rLenK K) := by
  subst e
  exact call_len_seq
/-! ### repr of data, an empty dict too -/
structure Rp (d : PyData) : Prop where
  sh : d.showable = true
  dp : d.depth ≤ 64
  ln : d.shown.length ≤ sizeLine
def rReprE (K : PySem.W.Frag) : List V → Hp → VK → Prop := fun xs H Q => ∃ (v : V) (d : PyData), xs = [v] ∧ DpE K H v d ∧ Rp d ∧ Q (.str d.shown) H
mutual
theorem dp_noDict {K : PySem.W.Frag} {H : Hp} : ∀ (d : PyData) (v : V), Dp K H v d → d.hasDict = false
  | .none, _, _ => rfl
  | .bool _, _, _ => rfl
  | .int _, _, _ => rfl
  | .str _, _, _ => rfl
  | .list ds, _, h => by
    cases h with
    | lst _ ha =>
      rw [PyData.hasDict]
      exact dps_noDict ds _ ha
  | .tuple ds, _, h => by
    cases h with
    | tup _ ha =>
      rw [PyData.hasDict]
      exact dps_noDict ds _ ha
  | .dict _, _, h => nomatch h
theorem dps_noDict {K : PySem.W.Frag} {H : Hp} : ∀ (ds : List PyData) (vs : List V), DpAll K H vs ds → PyData.hasDictAll ds = false
  | [], _, _ => rfl
  | d :: ds, _, h => by
    cases h with
    | cons h1 h2 =>
      rw [PyData.hasDictAll, dp_noDict d _ h1, dps_noDict ds _ h2]
      rfl
end
theorem call_reprE {X : Cx} (hg : X.A.guards = some []) (hu : X.A.units + 80 < cLine) : CallR X (.builtin "repr") (rReprE X.K) := by
  intro pins s σ H xs us Q I r h
  obtain ⟨v, d, rfl, hd, hp, q⟩ := h
  rcases hd with hd | ⟨rfl, a, rfl, ha⟩
  · exact call_reprD hg hu pins s σ H [v] us Q I r ⟨v, d, rfl, hd, hp.sh, dp_noDict d v hd, hp.dp, hp.ln, q⟩
  · obtain ⟨u, rfl, ru⟩ := vals1 r
    cases ru
    obtain ⟨_, hm, vs, kv, hdict⟩ := dk_of I.hok ha
    cases kv
    obtain ⟨o, es, ep, ho, hc, hd2, _, hps, _⟩ := hdict
    have e0 : es.toList = [] := by
      generalize es.toList = l at hps
      cases hps
      rfl
    have rd : Reads s.heap (.ref a) (.dict []) (a :: [] ++ []) := .dict ho hc.1 hd2 (by rw [e0]; exact .nil) (by rw [e0]; exact .nil)
    refine repr_of_reads' rd hp.sh (fun _ hin => ?_) hg (by have := hp.dp; omega) (fun _ _ e => e) (fun h' u tk hk => ⟨.str _, H, I.kept (t' := tk) hk, ⟨_, rfl⟩, q⟩) hp.ln
    have e1 : sysModules = a := by simpa using hin
    rw [e1] at hm
    simp at hm
theorem call_reprEK {X : Cx} (K : PySem.W.Frag) (e : X.K = K) (hg : X.A.guards = some []) (hu : X.A.units + 80 < cLine) : CallR X (.builtin "repr") (rReprE K) := by
  subst e
  exact call_reprE hg hu
end XX

set_option maxRecDepth 100000
set_option maxHeartbeats 4000000
namespace XX
open PySem PySem.Spec PyProof.Rows L2
/-! ### small data can be shown -/
theorem int_len : ∀ i : Fin 1011, (PyData.int ((i.val : Int) - 10)).shown.length ≤ 13 := by decide +kernel
theorem int_show : ∀ i : Fin 1011, (PyData.int ((i.val : Int) - 10)).showable = true := by decide +kernel
theorem int_wt : ∀ i : Fin 1011, (PyData.int ((i.val : Int) - 10)).weight ≤ 11 := by decide +kernel
theorem int_fin {i : Int} (h : sm (.int i) = true) : ∃ j : Fin 1011, i = (j.val : Int) - 10 := by
  rw [sm, Bool.and_eq_true, decide_eq_true_eq, decide_eq_true_eq] at h
  exact ⟨⟨(i + 10).toNat, by omega⟩, by show i = ((i + 10).toNat : Int) - 10; omega⟩
mutual
theorem sm_short : ∀ {d : PyData}, sm d = true → d.intsShort 13 = true
  | .none, _ => rfl
  | .bool _, _ => rfl
  | .int i, h => by
    obtain ⟨j, e⟩ := int_fin h
    rw [e, PyData.intsShort]
    exact decide_eq_true (int_len j)
  | .str _, _ => rfl
  | .list ds, h => by
    rw [PyData.intsShort]
    exact sms_short (sm_lst h).2
  | .tuple ds, h => by
    rw [PyData.intsShort]
    exact sms_short (sm_tup h).2
theorem sms_short : ∀ {ds : List PyData}, sms ds = true → PyData.intsShortAll 13 ds = true
  | [], _ => rfl
  | d :: ds, h => by
    rw [sms, Bool.and_eq_true] at h
    rw [PyData.intsShortAll, sm_short h.1, sms_short h.2]
    rfl
end
mutual
theorem sm_show : ∀ {d : PyData}, sm d = true → d.showable = true
  | .none, _ => rfl
  | .bool _, _ => rfl
  | .int i, h => by
    obtain ⟨j, e⟩ := int_fin h
    rw [e]
    exact int_show j
  | .str _, _ => rfl
  | .list ds, h => by
    rw [PyData.showable]
    exact sms_show (sm_lst h).2
  | .tuple ds, h => by
    rw [PyData.showable]
    exact sms_show (sm_tup h).2
theorem sms_show : ∀ {ds : List PyData}, sms ds = true → PyData.showableAll ds = true
  | [], _ => rfl
  | d :: ds, h => by
    rw [sms, Bool.and_eq_true] at h
    rw [PyData.showableAll, sm_show h.1, sms_show h.2]
    rfl
end
structure Sml (k n : Nat) (d : PyData) : Prop where
  s : sm d = true
  dp : d.depth ≤ k
  wt : d.weight ≤ n
theorem Sml.mono {k n k' n' : Nat} {d : PyData} (h : Sml k n d) (a : k ≤ k') (b : n ≤ n') : Sml k' n' d := ⟨h.s, Nat.le_trans h.dp a, Nat.le_trans h.wt b⟩
theorem Sml.rp {k n : Nat} {d : PyData} (h : Sml k n d) (hk : k ≤ 64) (hn : n ≤ 2 ^ 20) : Rp d := by
  refine ⟨sm_show h.s, Nat.le_trans h.dp hk, ?_⟩
  have lay : PyData.layable0 d = true := by
    unfold PyData.layable0
    rw [sm_lay h.s, decide_eq_true (Nat.le_trans h.dp hk), decide_eq_true (Nat.le_trans h.wt hn)]
    rfl
  have e := shown_le13 lay (sm_short h.s)
  have e2 := sizeLine_eq
  omega
theorem wt_all {n : Nat} : ∀ {ds : List PyData}, (∀ d ∈ ds, d.weight ≤ n) → PyData.weightAll ds ≤ ds.length * (n + 1)
  | [], _ => Nat.zero_le _
  | d :: ds, h => by
    have e1 := wt_all fun e he => h e (List.mem_cons_of_mem d he)
    have e2 := h d (List.mem_cons_self ..)
    rw [PyData.weightAll, List.length_cons, Nat.add_mul, Nat.one_mul]
    omega
theorem dp_all {k : Nat} : ∀ {ds : List PyData}, (∀ d ∈ ds, d.depth ≤ k) → PyData.depthAll ds ≤ k
  | [], _ => Nat.zero_le _
  | d :: ds, h => by
    have e1 := dp_all fun e he => h e (List.mem_cons_of_mem d he)
    have e2 := h d (List.mem_cons_self ..)
    rw [PyData.depthAll]
    omega
theorem Sml.tup {k n m : Nat} {ds : List PyData} (h : ∀ d ∈ ds, Sml k n d) (hl : ds.length ≤ m) (hm : m ≤ 1000) : Sml (k + 1) (m * (n + 1)) (.tuple ds) := by
  refine ⟨?_, ?_, ?_⟩
  · rw [sm, Bool.and_eq_true]
    exact ⟨decide_eq_true (by omega), sms_of fun d hd => (h d hd).s⟩
  · have e := dp_all fun d hd => (h d hd).dp
    show PyData.depthAll ds + 1 ≤ k + 1
    omega
  · have e := wt_all fun d hd => (h d hd).wt
    exact Nat.le_trans e (Nat.mul_le_mul_right _ hl)
theorem Sml.lst {k n m : Nat} {ds : List PyData} (h : ∀ d ∈ ds, Sml k n d) (hl : ds.length ≤ m) (hm : m ≤ 1000) : Sml (k + 1) (m * (n + 1)) (.list ds) := by
  refine ⟨?_, ?_, ?_⟩
  · rw [sm, Bool.and_eq_true]
    exact ⟨decide_eq_true (by omega), sms_of fun d hd => (h d hd).s⟩
  · have e := dp_all fun d hd => (h d hd).dp
    show PyData.depthAll ds + 1 ≤ k + 1
    omega
  · have e := wt_all fun d hd => (h d hd).wt
    exact Nat.le_trans e (Nat.mul_le_mul_right _ hl)
theorem sml_int {i : Int} (h0 : -10 ≤ i) (h1 : i ≤ 1000) : Sml 0 11 (.int i) := by
  have hs : sm (.int i) = true := by
    rw [sm, decide_eq_true h0, decide_eq_true h1]
    rfl
  refine ⟨hs, Nat.le_refl _, ?_⟩
  obtain ⟨j, e⟩ := int_fin hs
  rw [e]
  exact int_wt j
theorem sml_str {z : Str} {n : Nat} (h : z.length ≤ n) (hn : n ≤ 1000) (hc : ∀ c ∈ z.cps.toList, c < 0x110000) : Sml 0 n (.str z) := by
  refine ⟨?_, Nat.le_refl _, h⟩
  rw [sm, Bool.and_eq_true]
  refine ⟨decide_eq_true (by omega), Array.all_eq_true'.mpr fun c m => decide_eq_true (hc c (Array.mem_def.mp m))⟩
end XX

set_option maxRecDepth 100000
set_option maxHeartbeats 4000000
namespace YY
open PySem PySem.Spec PyProof.Rows L2 XX
local macro_rules | `(tactic| walk_at "wp") => `(tactic| simp only [tSeq, tNext, tAsg, tPar, gName, tCB, tCons, tNil, tVar, tC, tOp, tUn, rI, rI0, rU, tLst, tTup, tFor_eq, iRng1, iRng2, iList, iTup, tRet, tRetN, tDrop, tIfS, tTest, tB, tAnd, tOr, tNot, tIf, tAndV, tOrV, tNotV, tCall, tBM, tBM0, rIxL, rIxT, rAppend, tLc_eq, gSub, rSetL, rEq, rNe, rMulS, rIxS, tRevT, gTup, gCons, gNil, wipe, tYes, LcEnd, tDisp, tPairs, tChain, tSl, tPart, tNoPart, rSlT, rSlL, rCatT, rCat, rRep, rIsD, V.ty.injEq, iZipB, tXf, wMA, wAs, rLenK, tLenSetS, rReprE, tVeI, tOst, tErr, tMkO, sFld, tFld, rIsE2, tMakeS, rListStr, tDNotIn, tDGet, rSetD, gSub, iEnumA, rIxD, iStr,
  cxOf_K, cxOf_noxK, L2.start, List.map_cons, List.map_nil, List.length_cons, List.length_nil, Nat.reduceAdd, Nat.reduceSub, List.replicate_succ, List.replicate_zero, List.replicate, List.cons_append, List.nil_append, List.getElem?_cons_zero, List.getElem?_cons_succ, List.set_cons_zero, List.set_cons_succ, List.append_nil,
  Option.some.injEq, V.int.injEq, V.ref.injEq, V.bl.injEq, V.str.injEq, List.cons.injEq, and_true, true_and, exists_eq_left', exists_eq_left, exists_and_left, exists_and_right, exists_const, bool_ite_true, bool_ite_false, dec_ite, ndec_ite, reduceCtorEq, false_or, or_false, false_and, and_false, decide_eq_true_eq, and_assoc, reduceIte, ite_true, ite_false, Int.zero_add])

def topS (i : Nat) : Stmt := PySem.Challenge.pw_partedlanes_k01_exceptions.main.body.getD i (.Pass ⟨0, 0, 0, 0⟩)
abbrev sNumbers : Stmt := topS 32
abbrev sPool : Stmt := topS 9999
abbrev sDraw : Stmt := topS 9999
abbrev sPick : Stmt := topS 9999
/-- the built-ins that no name of the module hides -/
structure Bl (mg : Str → Option Value) : Prop where
  n_max : mg "max" = none
  n_range : mg "range" = none
  n_len : mg "len" = none
  n_int : mg "int" = none
section
variable {P : Program} {w : World} {K : PySem.W.Frag} {mg : Str → Option Value} {base : Heap}

/-! ### _law_numbers -/
def nums (ns : List Int) : List V := ns.map V.int
def spNumbers (K : PySem.W.Frag) : Sp := fun vs H Q _ => ∃ (cell salt : Int) (a : Addr) (sz : List Int), vs = [.int cell, .int salt, .ref a] ∧ SqL K H a (nums sz) ∧ 0 ≤ salt ∧ salt ≤ 100000 ∧ sz.length ≤ 1000 ∧ (∀ z ∈ sz, 0 < z ∧ z ≤ 1000) ∧
  ∀ (p : Addr) (ns : List Int), H p = none → ns.length = sz.length → (∀ n ∈ ns, 0 ≤ n) → (∀ (i : Nat) n z, ns[i]? = some n → sz[i]? = some z → n < z) → Q (.ref p) (upd H p (.lst (nums ns)))
theorem scNumbers : FnScope ["cell", "salt", "sizes", "whole", "left", "result", "k", "one"] ["cell", "salt", "sizes"] (defScope sNumbers) := ⟨rfl, rfl, rfl, by decide +kernel, rfl, by decide +kernel, by decide +kernel⟩
theorem c_numbers (D : Def K mg "_law_numbers" sNumbers ["cell", "salt", "sizes"]) (T : Bl mg) : FnC P w K mg base CX0 1 "_law_numbers" ["cell", "salt", "sizes"] (spNumbers K) := by
  refine D.ok scNumbers (fun vs H Q E h => ?_) (fun f cdv A outer s H vs Q E hr h => ?_)
  · obtain ⟨cell, salt, a, sz, rfl, _⟩ := h
    rfl
  · obtain ⟨cell, salt, a, sz, rfl, hS, hs0, hs1, hl, hz, k⟩ := h
    have sc := scNumbers
    refine ⟨_, (pss_cons (ps_set (i := 3) sc.nd rfl (Or.inl rfl) (pe_callB (call_max2 rfl) (by rfl) T.n_max (by decide +kernel) (pa_cons (pv 0) (pa_cons (pe_op op_sub (pe_un un_neg pe_int) (pv 0)) pa_nil))))
    (pss_cons (ps_set (i := 4) sc.nd rfl (Or.inl rfl) (pv 3))
    (pss_cons (ps_set (i := 5) sc.nd rfl (Or.inl rfl) (pe_lst pa_nil))
    (pss_cons (ps_for PassesOwn.never rfl (pi_range1 (by rfl) T.n_range (pa_cons (pe_callB call_len_seq (by rfl) T.n_len (by decide +kernel) (pa_cons (pv 2) pa_nil)) pa_nil)) (pg_name (i := 6) sc.nd rfl (Or.inl rfl))
      (pss_one (ps_if (PW.pt (pw_and (pt_cmpR op_ge (pv 3) (pe_op op_pow pe_int pe_int) (nomark _)) (pw_and1 (pt_cmpR op_gt (pv 4) pe_int (nomark _))))) (pss_cons (ps_expr (pe_bm PySem.F.plainAttrs_list PySem.F.slot_list_append PySem.F.type_list_append mt_append (pv 5) (pa_cons (pe_op op_mod (pv 4) (pe_ix ix_list (pv 2) (pv 6) (fun _ _ => rfl))) pa_nil)))
    (pss_one (ps_set (i := 4) sc.nd rfl (Or.inl rfl) (pe_op op_fdiv (pv 4) (pe_ix ix_list (pv 2) (pv 6) (fun _ _ => rfl)))))) (pss_cons (ps_set (i := 7) sc.nd rfl (Or.inl rfl) (pe_op op_mod (pe_op op_pow (pe_op op_add (pe_op op_add (pe_op op_mod (pv 3) pe_int) (pe_op op_mul pe_int (pv 1))) pe_int) pe_int) pe_int))
    (pss_cons (ps_set (i := 7) sc.nd rfl (Or.inl rfl) (pe_op op_mod (pe_op op_mul (pe_op op_add (pv 7) (pe_op op_mul pe_int (pe_op op_add (pv 6) pe_int))) (pe_op op_add (pv 6) pe_int)) pe_int))
    (pss_cons (ps_set (i := 7) sc.nd rfl (Or.inl rfl) (pe_op op_mod (pe_op op_mul (pe_op op_mod (pe_op op_pow (pv 7) pe_int) pe_int) pe_int) pe_int))
    (pss_one (ps_expr (pe_bm PySem.F.plainAttrs_list PySem.F.slot_list_append PySem.F.type_list_append mt_append (pv 5) (pa_cons (pe_op op_mod (pe_op op_fdiv (pv 7) pe_int) (pe_ix ix_list (pv 2) (pv 6) (fun _ _ => rfl))) pa_nil))))))))))
    (pss_one (ps_ret (pv 5))))))), ?_⟩
    walk_at "wp"
    generalize hw : (if -1 - cell > cell then -1 - cell else cell) = whole
    have hw0 : 0 ≤ whole := by
      rw [← hw]
      split <;> omega
    have hne : ∀ {q : Addr} {xs : List V}, SqL K H q xs → ∀ {p : Addr} {o : HO}, H p = none → SqL K (upd H p o) q xs := fun {q xs} h {p o} hp => by
      rcases h with (h | ⟨ob, h⟩) | h
      · exact .inl (.inl (by rw [upd_ne (ne_of_none h hp)]; exact h))
      · exact .inl (.inr ⟨ob, by rw [upd_ne (ne_of_none h hp)]; exact h⟩)
      · exact .inr h
    have hsl : (nums sz).length = sz.length := List.length_map ..
    refine ⟨Nat.zero_le _, fun p hp => ⟨nums sz, Or.inl (hne hS hp), by omega, by rw [hsl]; omega, ?_⟩⟩
    refine loop_it (walk_range (lo := 0)) (fun i σ H' => ∃ (left : Int) (ns : List Int) (u v : Option V), σ = [some (V.int cell), some (V.int salt), some (V.ref a), some (V.int whole), some (V.int left), some (V.ref p), u, v] ∧ H' = upd H p (.lst (nums ns)) ∧ ns.length = i ∧ 0 ≤ left ∧ (∀ n ∈ ns, 0 ≤ n) ∧ ∀ (i : Nat) n z, ns[i]? = some n → sz[i]? = some z → n < z)
      ⟨whole, [], none, none, rfl, rfl, rfl, hw0, fun n h => (nomatch h), fun i n z h => by simp at h⟩ (fun _ _ _ _ _ => True.intro) ?_ ?_
    · rintro i x σ H1 H2 hi ⟨left, ns, u, v, rfl, rfl, hn, hl0, hnn, hlt⟩ ⟨rfl, rfl⟩
      walk_at "wp"
      rw [hsl] at hi
      have hi' : i < sz.length := by omega
      obtain ⟨z, hzi⟩ : ∃ z, sz[i]? = some z := ⟨sz[i], by simp [hi']⟩
      have hzz := hz z (List.mem_of_getElem? hzi)
      have hat : atI (nums sz) (i : Int) = some (V.int z) := atI_nat (by rw [nums, List.getElem?_map, hzi]; rfl)
      have hty : tyV K "list" (V.ref p) (upd H p (.lst (nums ns))) := Or.inl ⟨rfl, _, SqL.of upd_same⟩
      have hS1 : SqL K (upd H p (.lst (nums ns))) a (nums sz) := hne hS hp
      have hsz : (nums ns).length < sizeLine := by
        rw [nums, List.length_map, sizeLine_eq]
        omega
      have ap : ∀ x : Int, 0 ≤ x → x < z → ∃ ns' : List Int, upd (upd H p (.lst (nums ns))) p (.lst (nums ns ++ [V.int x])) = upd H p (.lst (nums ns')) ∧ ns'.length = i + 1 ∧ (∀ n ∈ ns', 0 ≤ n) ∧ ∀ (i : Nat) n z, ns'[i]? = some n → sz[i]? = some z → n < z := fun x h0 h1 => by
        refine ⟨ns ++ [x], ?_, by rw [List.length_append, hn]; rfl, fun n hm => ?_, fun j n y hj hy => ?_⟩
        · rw [upd_upd]
          congr 2
          simp [nums]
        · rcases List.mem_append.mp hm with h | h
          · exact hnn n h
          · rw [List.mem_singleton.mp h]
            exact h0
        · by_cases hji : j < ns.length
          · rw [List.getElem?_append_left hji] at hj
            exact hlt j n y hj hy
          · rw [List.getElem?_append_right (by omega)] at hj
            have e : j - ns.length = 0 := by
              have q := (List.getElem?_eq_some_iff.mp hj).1
              simp at q
              omega
            rw [e] at hj
            have e2 : j = i := by omega
            subst e2
            rw [hzi] at hy
            cases hy
            simp at hj
            omega
      have hcp : CPow 10 18 := ⟨by decide, by decide, by decide⟩
      refine ⟨hcp, ?_⟩
      have hdraw : ∀ m : Int, 0 ≤ m → 0 ≤ m % z ∧ m % z < z := fun m _ => ⟨Int.emod_nonneg _ (by omega), Int.emod_lt_of_pos _ hzz.1⟩
      generalize ha1 : whole % 2147483629 + 7919 * salt + 1 = a1
      have b1 : 0 ≤ a1 ∧ a1 < 10000000000 := by
        have q1 := Int.emod_nonneg whole (show (2147483629 : Int) ≠ 0 by decide)
        have q2 := Int.emod_lt_of_pos whole (show (0 : Int) < 2147483629 by decide)
        omega
      generalize ha2 : a1 ^ Int.toNat 3 % 2147483647 = a2
      have b2 : 0 ≤ a2 ∧ a2 < 2147483647 := by
        rw [← ha2]
        exact ⟨Int.emod_nonneg _ (by decide), Int.emod_lt_of_pos _ (by decide)⟩
      generalize ha3 : (a2 + 104729 * ((i : Int) + 1)) * ((i : Int) + 3) % 2147483629 = a3
      have b3 : 0 ≤ a3 ∧ a3 < 2147483629 := by
        rw [← ha3]
        exact ⟨Int.emod_nonneg _ (by decide), Int.emod_lt_of_pos _ (by decide)⟩
      generalize ha4 : a3 ^ Int.toNat 5 % 2147483647 = a4
      have b4 : 0 ≤ a4 ∧ a4 < 2147483647 := by
        rw [← ha4]
        exact ⟨Int.emod_nonneg _ (by decide), Int.emod_lt_of_pos _ (by decide)⟩
      generalize ha5 : a4 * 48271 % 2147483629 = a5
      have b5 : 0 ≤ a5 ∧ a5 < 2147483629 := by
        rw [← ha5]
        exact ⟨Int.emod_nonneg _ (by decide), Int.emod_lt_of_pos _ (by decide)⟩
      have hpoly : ∀ R : Prop, (∀ x : Int, 0 ≤ x → x < z → (∃ ns' : List Int, upd (upd H p (.lst (nums ns))) p (.lst (nums ns ++ [V.int x])) = upd H p (.lst (nums ns')) ∧ ns'.length = i + 1 ∧ 0 ≤ left ∧ (∀ n ∈ ns', 0 ≤ n) ∧ ∀ (i : Nat) n z, ns'[i]? = some n → sz[i]? = some z → n < z) → R) → R := fun R q => by
        refine q (a5 / 16 % z) (hdraw _ (by omega)).1 (hdraw _ (by omega)).2 ?_
        obtain ⟨ns', e1, e2, e3, e4⟩ := ap (a5 / 16 % z) (hdraw _ (by omega)).1 (hdraw _ (by omega)).2
        exact ⟨ns', e1, e2, hl0, e3, e4⟩
      have c1 : CMul 7919 salt := .inl ⟨by decide, by decide⟩
      have c2 : CPow a1 3 := ⟨by decide, by decide, by omega⟩
      have c3 : CMul 104729 ((i : Int) + 1) := .inl ⟨by decide, by decide⟩
      have c4 : CMul (a2 + 104729 * ((i : Int) + 1)) ((i : Int) + 3) := .inr ⟨by omega, by omega⟩
      have c5 : CPow a3 5 := ⟨by decide, by decide, by omega⟩
      have c6 : CMul a4 48271 := .inr ⟨by decide, by decide⟩
      have c7 : CDiv a5 16 := ⟨by decide, by decide⟩
      obtain ⟨ns', e1, e2, e3, e4⟩ := ap (a5 / 16 % z) (hdraw _ (by omega)).1 (hdraw _ (by omega)).2
      have hls : 0 ≤ left / z := Int.ediv_nonneg hl0 (by omega)
      refine ite2 (fun _ => ite2 (fun hlp => ?_) (fun _ => ?_)) (fun _ => ?_)
      · obtain ⟨ms, f1, f2, f3, f4⟩ := ap (left % z) (hdraw _ hl0).1 (hdraw _ hl0).2
        refine ⟨hty, _, hS1, _, hat, z, rfl, hzz.1, _, upd_same, hsz, _, ?_, _, hat, z, rfl, ⟨hzz.1, by omega⟩, ms, f1, f2, hls, f3, f4⟩
        rw [upd_upd]
        exact hne hS hp
      · exact ⟨by decide, c1, c2, by decide, c3, c4, by decide, c5, by decide, c6, by decide, hty, c7, _, hS1, _, hat, z, rfl, hzz.1, _, upd_same, hsz, ns', e1, e2, hl0, e3, e4⟩
      · exact ⟨by decide, c1, c2, by decide, c3, c4, by decide, c5, by decide, c6, by decide, hty, c7, _, hS1, _, hat, z, rfl, hzz.1, _, upd_same, hsz, ns', e1, e2, hl0, e3, e4⟩
    · rintro σ H1 ⟨left, ns, u, v, rfl, rfl, hn, hl0, hnn, hlt⟩
      walk_at "wp"
      refine k p ns hp ?_ hnn hlt
      rw [hn, hsl]
      omega
end
end YY

set_option maxRecDepth 100000
set_option maxHeartbeats 4000000
namespace XX
open PySem PySem.Spec PyProof.Rows L2
/-! ### != of two lists of the same texts -/
def rNeS (K : PySem.W.Frag) : R2 := fun x y H Q => ∃ (a b : Addr) (zs : List Str), x = .ref a ∧ y = .ref b ∧ SqL K H a (zs.map V.str) ∧ SqL K H b (zs.map V.str) ∧ Q (.bl false) H
theorem op_neS {X : Cx} (hu : X.A.units + 64 < cLine) : OpR X (compareOp .NotEq) (rNeS X.K) := by
  intro pins s σ H x y v u Q I rx ry h
  obtain ⟨a, b, zs, rfl, rfl, ha, hb, q⟩ := h
  obtain rfl : v = Value.ref a := rx
  obtain rfl : u = Value.ref b := ry
  obtain ⟨us, r1, p1, _⟩ := I.list ha
  obtain ⟨ws, r2, p2, _⟩ := I.list hb
  have sz : us.toArray.size = ws.toArray.size := by rw [List.size_toArray, List.size_toArray, ← r1.length, ← r2.length]
  have he : ∀ j (j1 : j < us.toArray.size) (j2 : j < ws.toArray.size), SeqAt.EqAt X.A.in1 s us.toArray[j] ws.toArray[j] ((fun _ => true) j) := fun j j1 j2 => by
    have j0 : j < (zs.map V.str).length := by rw [r1.length]; simpa using j1
    obtain ⟨v1, e1, q1⟩ := r1.get (i := j) (List.getElem?_eq_getElem j0)
    obtain ⟨v2, e2, q2⟩ := r2.get (i := j) (List.getElem?_eq_getElem j0)
    have f1 : us.toArray[j] = v1 := by
      have e3 : us[j]? = some us.toArray[j] := by simp
      rw [e1] at e3
      exact (Option.some.inj e3).symm
    have f2 : ws.toArray[j] = v2 := by
      have e3 : ws[j]? = some ws.toArray[j] := by simp
      rw [e2] at e3
      exact (Option.some.inj e3).symm
    rw [f1, f2]
    have ez : (zs.map V.str)[j] = .str (zs[j]'(by simpa using j0)) := List.getElem_map ..
    rw [ez] at q1 q2
    have e4 := eqAt_V (A := X.A.in1) (s := s) q1 q2 rfl rfl
    have e5 : eqV (.str (zs[j]'(by simpa using j0))) (.str (zs[j]'(by simpa using j0))) = true := beq_self_eq_true (α := Str) _
    rw [e5] at e4
    exact e4
  refine SeqAt.RcNeAt.lists p1.isList p2.isList sz (by omega) he X.prog X.w _ _ ?_
  have e6 : (!(List.range us.toArray.size).all fun _ => true) = false := by rw [List.all_eq_true.mpr fun _ _ => rfl]; rfl
  rw [e6]
  exact ⟨.bl false, H, I, rfl, q⟩
theorem shaped_ints (ns : List Int) : SeqAt.shaped (.list (ns.map PyData.int)) = true := by
  have h1 : ∀ l : List Int, PyData.canLayAll0 (l.map PyData.int) = true := fun l => by
    induction l with
    | nil => rfl
    | cons i l ih =>
      rw [List.map_cons, PyData.canLayAll0, ih]
      rfl
  have h2 : ∀ l : List Int, PyData.depthAll (l.map PyData.int) = 0 := fun l => by
    induction l with
    | nil => rfl
    | cons i l ih =>
      rw [List.map_cons, PyData.depthAll, ih]
      rfl
  unfold SeqAt.shaped
  rw [PyData.canLay0, h1, decide_eq_true (show (PyData.list (ns.map PyData.int)).depth ≤ 64 from by show PyData.depthAll (ns.map PyData.int) + 1 ≤ 64; rw [h2]; decide)]
  rfl
end XX

set_option maxRecDepth 100000
set_option maxHeartbeats 4000000
namespace XX
open PySem PySem.Spec PyProof.Rows L2
/-! ### methods by their promise -/
structure MtC (P : Program) (w : World) (K : PySem.W.Frag) (mg : Str → Option Value) (base : Heap) (CX : CXT) (k : Nat) (C : Addr) (m : Str) (ps : List Str) (sp : Sp) : Prop where
  ex : ∃ (f : Addr) (fd : FuncData), FnOk P w K mg base CX k f fd ps sp ∧ Meth K C m f ∧ Binds K fd ps []
theorem MtC.mono {P : Program} {w : World} {K : PySem.W.Frag} {mg : Str → Option Value} {base : Heap} {CX : CXT} {j k : Nat} {C : Addr} {m : Str} {ps : List Str} {sp : Sp} (c : MtC P w K mg base CX j C m ps sp) (h : j ≤ k) : MtC P w K mg base CX k C m ps sp := by
  obtain ⟨f, fd, F, r⟩ := c.ex
  exact ⟨f, fd, F.mono h, r⟩
structure DefM (K : PySem.W.Frag) (C : Addr) (m q : Str) (st : Stmt) (ps : List Str) : Prop where
  ex : ∃ (f : Addr) (fd : FuncData), L2.Fun K m q st f fd ∧ Meth K C m f ∧ Binds K fd ps []
section
variable {P : Program} {w : World} {K : PySem.W.Frag} {mg : Str → Option Value} {base : Heap}
theorem DefM.ok {C : Addr} {m q : Str} {st : Stmt} {N ps : List Str} {k : Nat} {sp : Sp} (D : DefM K C m q st ps) (S : FnScope N ps (defScope st)) (len : ∀ vs H Q E, sp vs H Q E → vs.length = ps.length)
    (hbody : ∀ (f : Addr) (cdv : Value) (A : Around) (outer : List Env) (s : Shared) (H : Hp) (vs : List V) (Q : VK) (E : XK), Room k (A.deeper (envOfC q (defScope st) s.heap.objs.size f cdv)) → sp vs H Q E →
      ∃ t, PSs (cxOf CX0 P w K mg base N q (defScope st) f cdv A outer s H E).nox (defBody st) t ∧ t { nx := fun _ H' => Q .non H', rt := Q } (start N vs) H) : MtC P w K mg base CX0 (k + 1) C m ps sp := by
  obtain ⟨f, fd, F, hm, hb⟩ := D.ex
  exact ⟨f, fd, F.ok S len (hbody f), hm, hb⟩
theorem DefM.okX {C : Addr} {m q : Str} {st : Stmt} {N ps : List Str} {k : Nat} {sp : Sp} (D : DefM K C m q st ps) (S : FnScope N ps (defScope st)) (len : ∀ vs H Q E, sp vs H Q E → vs.length = ps.length)
    (hbody : ∀ (f : Addr) (cdv : Value) (A : Around) (outer : List Env) (s : Shared) (H : Hp) (vs : List V) (Q : VK) (E : XK), Room k (A.deeper (envOfC q (defScope st) s.heap.objs.size f cdv)) → sp vs H Q E →
      ∃ t, PSs (cxOf (L2.CX P w) P w K mg base N q (defScope st) f cdv A outer s H E) (defBody st) t ∧ t { nx := fun _ H' => Q .non H', rt := Q } (start N vs) H) : MtC P w K mg base (L2.CX P w) (k + 1) C m ps sp := by
  obtain ⟨f, fd, F, hm, hb⟩ := D.ex
  exact ⟨f, fd, F.okX S len (hbody f), hm, hb⟩
end
def tMethX (C : Addr) (m : Str) (sp : Sp) (E : L2.St → XK) (ta : TE) (t : TA) : TE := fun σ H Q => ta σ H fun x H1 => ∃ a dx fs, x = .ref a ∧ H1 a = some (.ins C dx fs) ∧ fs.lookup m = none ∧
  t σ H1 fun vs H2 => sp (x :: vs) H2 Q (E σ)
section
variable {X : Cx} {CX : CXT} {k : Nat} {C : Addr} {m : Str} {ps : List Str} {sp : Sp} {E : L2.St → XK} {pos apos : Pos} {e o : Expr} {es : List Expr} {ta : TE} {t : TA} {pl : Sem Bool}
theorem pe_m (he : PE X o ta) (c : Cls X.K C) (M : MtC X.prog X.w X.K X.mg X.base CX0 k C m ps sp) (hr : Room k X.A) (ha : PA X (e :: es) t)
    (hst : starEach (e :: es) X.env = (false, eval e X.env) :: starEach es X.env := by rfl) (hpl : (backTo pos (starEach es X.env)).any (·.1) = false := by rfl)
    (ht : eval (.Call (.Attribute o m apos) (e :: es) [] pos) X.env = (do
      let ov ← eval o X.env
      standAt apos.atName
      let (f, first) ← holding [ov] (getMethod ov m pl)
      callWith pos f first (backTo pos (starEach (e :: es) X.env)) (backToKw pos (keywordEach [] X.env))) := by rfl) :
    PE X (.Call (.Attribute o m apos) (e :: es) [] pos) (tMeth C m sp [] E0 ta t) := by
  obtain ⟨f, fd, F, hm, hb⟩ := M.ex
  exact pe_meth he c hm F hr hb .nil pass0 ha hst hpl ht
theorem pe_m0 (he : PE X o ta) (c : Cls X.K C) (M : MtC X.prog X.w X.K X.mg X.base CX0 k C m ps sp) (hr : Room k X.A)
    (ht : eval (.Call (.Attribute o m apos) [] [] pos) X.env = (do
      let ov ← eval o X.env
      standAt apos.atName
      let (f, first) ← holding [ov] (getMethod ov m pl)
      callWith pos f first (backTo pos (starEach [] X.env)) (backToKw pos (keywordEach [] X.env))) := by rfl) :
    PE X (.Call (.Attribute o m apos) [] [] pos) (tMeth C m sp [] E0 ta tNil) := by
  obtain ⟨f, fd, F, hm, hb⟩ := M.ex
  exact pe_meth0 he c hm F hr hb .nil pass0 ht
/-- a method that may raise, at the slots -/
theorem pe_mX (he : PE X o ta) (c : Cls X.K C) (M : MtC X.prog X.w X.K X.mg X.base CX k C m ps sp) (hr : Room k X.A) (hx : ∀ σ, PassesAt CX X σ (E σ)) (ha : PA X (e :: es) t)
    (hst : starEach (e :: es) X.env = (false, eval e X.env) :: starEach es X.env := by rfl) (hpl : (backTo pos (starEach es X.env)).any (·.1) = false := by rfl)
    (ht : eval (.Call (.Attribute o m apos) (e :: es) [] pos) X.env = (do
      let ov ← eval o X.env
      standAt apos.atName
      let (f, first) ← holding [ov] (getMethod ov m pl)
      callWith pos f first (backTo pos (starEach (e :: es) X.env)) (backToKw pos (keywordEach [] X.env))) := by rfl) :
    PE X (.Call (.Attribute o m apos) (e :: es) [] pos) (tMethX C m sp E ta t) := by
  obtain ⟨f, fd, F, hm, hb⟩ := M.ex
  refine ⟨fun pins s σ H Q I h => ?_⟩
  refine PySem.W.methodCall_KW (pl := pl) (thn (he.run pins s σ H _ I h) fun u s1 ⟨x, H1, I1, rx, a, dx, fs, ex, ea, l, q⟩ => ?_) ht
  subst ex
  obtain rfl : u = Value.ref a := rx
  refine getmeth_ok I1 ea c hm l ?_
  refine PySem.W.callWith_K (first := [.ref a]) (h₀ := X.base) I.ok.mod.kin hm.kp (thn (ha.run pos pins s1 σ H1 _ I1 q) fun us s2 ⟨vs, H2, I2, r, q2⟩ => ⟨I2.kIn, ?_⟩) hst hpl
  exact run_fnS (us := .ref a :: us) (vs := .ref a :: vs) F hr hb (hx σ) I2 (.cons rfl r) q2
theorem passLAt {X : Cx} (σ : L2.St) : PassesAt (L2.CX X.prog X.w) X σ E0 := fun pins H s e s' I c => passL pins σ H s e s' I c
end
section
variable {X : Cx}
theorem op_inK (K : PySem.W.Frag) (h : X.K = K) : OpR X (compareOp .In) (rIn K false) := by
  subst h
  exact op_in_seq
theorem op_notInK (K : PySem.W.Frag) (h : X.K = K) : OpR X (compareOp .NotIn) (rIn K true) := by
  subst h
  exact op_notIn_seq
theorem pe_fldK {e : Expr} {f : Str} {pos : Pos} {ta : TE} (K : PySem.W.Frag) (h : X.K = K) (he : PE X e ta) (hb : attributeBase e f X.env (eval e X.env) = eval e X.env) : PE X (.Attribute e f pos) (tFld K ta f) := by
  subst h
  exact pe_fld he hb
theorem ix_tupK (K : PySem.W.Frag) (h : X.K = K) : IxR X (rIxT K) := by
  subst h
  exact ix_tup
theorem ix_listK (K : PySem.W.Frag) (h : X.K = K) : IxR X (rIxL K) := by
  subst h
  exact ix_list
end
end XX

set_option maxRecDepth 100000
set_option maxHeartbeats 4000000
namespace XX
open PySem PySem.Spec PyProof.Rows L2
/-! ### own operators of plain instances: ==, !=, len, [] -/
section
variable {X : Cx} {CX : CXT} {k : Nat} {f C : Addr} {fd : FuncData} {ps : List Str} {sp : Sp}
/-- the callee runs within a builtin -/
theorem run_at {pins : List (Addr × Obj)} {σ : L2.St} {H : Hp} {s : Shared} {Q : VK} {us : List Value} {vs : List V} {E : XK} {A : Around} (F : FnOk X.prog X.w X.K X.mg X.base CX k f fd ps sp) (hr : Room k A) (he : Env0 X.prog X.w X.K X.mg X.base A X.stack s H) (hb : Binds X.K fd ps []) (hx : PassesAt CX X σ E)
    (I : Inv X pins σ H s) (r : Vals vs us) (h : sp vs H Q E) : wpAny (model X.prog X.w) A (call (.ref f) us) (EP X pins σ Q) X.xe s := by
  have hl : us.length = ps.length := by rw [← r.length]; exact F.len _ _ _ _ h
  have b := hb s us I.kIn (by rw [List.append_nil]; exact hl)
  rw [List.append_nil] at b
  refine wpAny_call (codeAny_mono (F.run A X.stack s H ⟨us, []⟩ us vs Q E hr he b r h) fun r s' hq => ?_)
  cases r with
  | error e => exact hx pins H s e s' I hq
  | ok fl =>
    cases fl with
    | ret u => exact I.after hq
    | next => exact False.elim hq
    | brk => exact False.elim hq
    | cont => exact False.elim hq
/-- a value that is no instance above C: of C itself, or a tuple -/
def Beside (K : PySem.W.Frag) (C : Addr) (H : Hp) (y : V) : Prop := (∃ b dy gs, y = .ref b ∧ H b = some (.ins C dy gs)) ∨ (∃ b xs, y = .ref b ∧ SqT K H b xs)
theorem beside_look {pins : List (Addr × Obj)} {σ : L2.St} {H : Hp} {s : Shared} {M : Model} {y : V} {u : Value} (I : Inv X pins σ H s) (ry : RelV y u) (h : Beside X.K C H y) : ∃ tb, PySem.W.Looks M s.heap (typeOf u) tb ∧ (tb = .ref C ∨ tb = .type "tuple") := by
  rcases h with ⟨b, dy, gs, rfl, hb⟩ | ⟨b, xs, rfl, hb⟩
  · cases ry
    obtain ⟨mB, J, _⟩ := ins_get I.hok hb
    obtain ⟨od, J, _⟩ := J.look
    exact ⟨_, J.type, .inl rfl⟩
  · cases ry
    obtain ⟨its, r, pl, hz⟩ := I.tuple hb
    obtain ⟨o, ho, hc, n, hd⟩ := pl
    refine ⟨o.cls, (PySem.W.Looks.ld ho).andThen .now, .inr hc⟩
def rEqI (K : PySem.W.Frag) (C : Addr) (sp : Sp) : R2 := fun x y H Q => ∃ a dx fs, x = .ref a ∧ H a = some (.ins C dx fs) ∧ Beside K C H y ∧ sp [x, y] H (fun v H' => ∃ b, v = .bl b ∧ Q (.bl b) H') E0
theorem op_eqI (M : MtC X.prog X.w X.K X.mg X.base CX0 k C "__eq__" ["self", "other"] sp) (hn : PySem.W.notFirst X.K C (.type "tuple") = true) (hr : Room k X.A) : OpR X (compareOp .Eq) (rEqI X.K C sp) := by
  intro pins s σ H x y v u Q I rx ry h
  obtain ⟨a, dx, fs, rfl, ha, hb, hs⟩ := h
  obtain ⟨f, fd, F, hm, bi⟩ := M.ex
  cases rx
  obtain ⟨mA, J, _⟩ := ins_get I.hok ha
  obtain ⟨od, J, _⟩ := J.look
  obtain ⟨m, hF⟩ := I.fr
  obtain ⟨tb, ht, htb⟩ := beside_look (M := model X.prog X.w) I ry hb
  have hnf : PySem.W.notFirst X.K C tb = true := by
    rcases htb with rfl | rfl
    · simp [PySem.W.notFirst]
    · exact hn
  refine PySem.W.cmp_K (op := .Eq) (tb := tb) (by have := hr.un; omega) hF I.ok.mod.kin J ht hnf hm.at_ hm.fn ?_
  refine wpAny_mono (run_at F hr I.env0 bi (fun _ _ _ _ _ _ z => z.elim) I (us := [.ref a, u]) (vs := [.ref a, y]) (.cons rfl (.cons ry .nil)) hs) (fun w s' q => ?_) fun _ _ e => e
  obtain ⟨z, H', I', rz, b, rfl, q⟩ := q
  cases rz
  exact ⟨.bl b, H', I', rfl, q⟩
theorem ifBoundB_K {M : Model} {A : Around} {E : Value → Shared → Prop} {s : Shared} {K : PySem.W.Frag} {x C : Addr} {ox : Obj} {od : Option Obj} {name : Str} {id T : String} {args : List Value} {Q : Option Value → Shared → Prop} (X : K.In s.heap) (I : PySem.W.InstAt s.heap x ox C od) (hs : PySem.W.findIn K (.ref C) name = some (some (.builtin id))) (hf : Slot T name id)
    (h : wpAny M A (call (.builtin id) (.ref x :: args)) (fun v => Q (some v)) E s) : wpAny M A (callSpecialIfBound? (.ref x) name args) Q E s := by
  simp only [callSpecialIfBound?, bindSpecialIfBound?]
  refine wpAny_holding (wpAny_bind (wpAny_bind (wpAny_bind (I.type.here ((PySem.W.looks_findIn X hs).here ?_)))))
  simp only [hf.bind]
  refine wpAny_bind (wpAny_askSetting (wpAny_ite ?_))
  have fin : wpAny M A (call (.builtin id) ([.ref x] ++ args) >>= fun v => pure (some v)) Q E s := wpAny_bind (wpAny_mono h (fun v s' h' => wpAny_pure h') fun _ _ h' => h')
  split
  · exact wpAny_bind (wpAny_pure (wpAny_pure fin))
  · exact wpAny_tryCatch (wpAny_bind (wpAny_pure (wpAny_pure fin)))
theorem op_neI (M : MtC X.prog X.w X.K X.mg X.base CX0 k C "__eq__" ["self", "other"] sp) (hn : PySem.W.notFirst X.K C (.type "tuple") = true) (hne : PySem.W.findIn X.K (.ref C) "__ne__" = some (some (.builtin "object.__ne__"))) (hob : PySem.W.subIn X.K (.ref C) (.type "object") = some true)
    (hr : Room (k + 1) X.A) : OpR X (compareOp .NotEq) (fun x y H Q => rEqI X.K C sp x y H (fun v H' => ∃ b, v = .bl b ∧ Q (.bl (!b)) H')) := by
  intro pins s σ H x y v u Q I rx ry h
  obtain ⟨a, dx, fs, rfl, ha, hb, hs⟩ := h
  obtain ⟨f, fd, F, hm, bi⟩ := M.ex
  cases rx
  obtain ⟨mA, J, _⟩ := ins_get I.hok ha
  obtain ⟨od, J, _⟩ := J.look
  obtain ⟨tb, ht, htb⟩ := beside_look (M := model X.prog X.w) I ry hb
  have hnf : tb = .ref C ∨ PySem.W.subIn X.K tb (.ref C) = some false := by
    rcases htb with rfl | rfl
    · exact .inl rfl
    · right
      unfold PySem.W.notFirst at hn
      rcases Bool.or_eq_true_iff.mp hn with e | e
      · simp at e
      · exact beq_iff_eq.mp e
  have hu : X.A.units + 1 < cLine := by have := hr.un; omega
  have one : wpAny (model X.prog X.w) X.A (tryCompare (.ref a) "__ne__" u) (fun r s' => ∃ v, r = some v ∧ EP X pins σ Q v s') X.xe s := by
    unfold tryCompare
    refine wpAny_bind (ifBoundB_K I.kIn J hne PySem.F.cmp_object.ne (wpAny_call (codeAny_call_builtin PySem.F.cmp_object.ne.plain PySem.F.cmpEntry_ne (PySem.W.check_slot PySem.F.cmpKind_ne PySem.F.cmpSplit_ne (J.type.andThen (PySem.W.looks_subIn I.kIn hob)) (PySem.F.cmpArgs_ne _ _) ?_))))
    unfold Builtin.«object.__ne__»
    repeat (first
      | with_reducible refine wpAny_cRoomFor hu ?_
      | (refine wpAny_bind (m := callSpecialIfBound? (.ref a) (Str.ofString "__eq__") [u])
          (PySem.W.ifBound_K I.kIn J hm.at_ hm.fn (wpAny_mono (run_at (us := [.ref a, u]) (vs := [.ref a, y]) F hr.in1 I.env0.in1 bi (fun _ _ _ _ _ _ z => z.elim) I (.cons rfl (.cons ry .nil)) hs) (fun r s' hq => by
            obtain ⟨z, H', I', rz, b, rfl, b', eb, q⟩ := hq
            cases eb
            cases rz
            repeat (first | exact ⟨_, rfl, .bl (!b), H', I', rfl, q⟩ | exact wpAny_pure ⟨_, rfl, .bl (!b), H', I', rfl, q⟩ | exact ⟨_, rfl, .bl (!b), H', I', rfl, b, rfl, q⟩ | exact wpAny_pure ⟨_, rfl, .bl (!b), H', I', rfl, b, rfl, q⟩ | exact wpAny_truthy_bool (wpAny_pure (wpAny_pure ⟨_, rfl, .bl (!b), H', I', rfl, b, rfl, q⟩)) | (refine wpAny_bind (m := truthy (.bool _)) (wpAny_truthy_bool ?_)) | wp_step)) fun _ _ e => e)))
      | wp_step)
  show wpAny _ _ (richCompare .NotEq (.ref a) u) _ _ _
  unfold richCompare
  simp only [oneThing_ref]
  refine wpAny_holding (wpAny_bind (wpAny_cRoomFor (by omega) ?_))
  refine wpAny_bind (J.type.here (wpAny_bind (ht.here ?_)))
  split
  · rename_i qq
    have e : PySem.W.subIn X.K tb (.ref C) = some false := by
      rcases hnf with e | e
      · rw [e] at qq; simp at qq
      · exact e
    refine wpAny_bind ((PySem.W.looks_subIn I.kIn e).here ?_)
    simp only [Bool.false_eq_true, if_false]
    refine wpAny_bind (wpAny_mono one (fun r s' z => ?_) fun _ _ e => e)
    obtain ⟨v, rfl, hq⟩ := z
    exact wpAny_pure hq
  · refine wpAny_bind (wpAny_pure ?_)
    simp only [Bool.false_eq_true, if_false]
    refine wpAny_bind (wpAny_mono one (fun r s' z => ?_) fun _ _ e => e)
    obtain ⟨v, rfl, hq⟩ := z
    exact wpAny_pure hq
/-- len(o) -/
def rLenI (C : Addr) (sp : Sp) : List V → Hp → VK → Prop := fun xs H Q => ∃ a dx fs, xs = [.ref a] ∧ H a = some (.ins C dx fs) ∧ sp xs H (fun v H' => ∃ n : Int, v = .int n ∧ (0 ≤ n ∧ n < 2 ^ 63) ∧ Q (.int n) H') E0
theorem call_lenI (M : MtC X.prog X.w X.K X.mg X.base CX0 k C "__len__" ["self"] sp) (hr : Room (k + 1) X.A) : CallR X (.builtin "len") (rLenI C sp) := by
  intro pins s σ H xs us Q I r h
  obtain ⟨a, dx, fs, rfl, ha, hs⟩ := h
  obtain ⟨f, fd, F, hm, bi⟩ := M.ex
  obtain ⟨u, rfl, ru⟩ := vals1 r
  cases ru
  obtain ⟨mA, J, _⟩ := ins_get I.hok ha
  obtain ⟨od, J, _⟩ := J.look
  obtain ⟨m, hF⟩ := I.fr
  refine PySem.W.len_K hF I.ok.mod.kin J hm.at_ hm.fn ?_
  refine wpAny_mono (run_at F hr.in1 I.env0.in1 bi (fun _ _ _ _ _ _ z => z.elim) I (us := [.ref a]) (vs := [.ref a]) (.cons rfl .nil) hs) (fun w s' q => ?_) fun _ _ e => e
  obtain ⟨z, H', I', rz, n, rfl, hn, q⟩ := q
  obtain ⟨tk, rz⟩ := rz
  rw [rz]
  exact ⟨hn, .int n, H', I'.tok _, ⟨_, rfl⟩, q⟩
/-- o[i], by an own __getitem__ that may raise -/
def tIxI (C : Addr) (sp : Sp) (E : L2.St → XK) (ta tb : TE) : TE := fun σ H Q => ta σ H fun x H1 => tb σ H1 fun y H2 => ∃ a dx fs, x = .ref a ∧ H2 a = some (.ins C dx fs) ∧ sp [x, y] H2 Q (E σ)
theorem pe_ixI {E : L2.St → XK} {ta tb : TE} {a b : Expr} {pos : Pos} (M : MtC X.prog X.w X.K X.mg X.base CX k C "__getitem__" ["self", "index"] sp) (hfn : ∀ f, PySem.W.findIn X.K (.ref C) "__getitem__" = some (some (.ref f)) → PySem.W.fnIn X.K f = true) (hr : Room (k + 1) X.A) (hx : ∀ σ, PassesAt CX X σ (E σ)) (ha : PE X a ta) (hb : PE X b tb)
    (hsl : ∀ v u, subscripted b true v u = runValue (.builtin "lifetime.subscript" ⟨[v, u], []⟩) := by intro _ _; with_unfolding_all rfl) : PE X (.Subscript a b pos) (tIxI C sp E ta tb) := by
  refine ⟨fun pins s σ H Q I h => ?_⟩
  refine Subscript_ (thn (ha.run pins s σ H _ I h) fun v s1 ⟨x, H1, I1, rx, q1⟩ => thn (hb.run pins s1 σ H1 _ I1 q1) fun u s2 ⟨y, H2, I2, ry, a', dx, fs, ex, ea, q2⟩ => ?_)
  subst ex
  obtain rfl : v = Value.ref a' := rx
  obtain ⟨f, fd, F, hm, bi⟩ := M.ex
  obtain ⟨mA, J, _⟩ := ins_get I2.hok ea
  obtain ⟨od, J, _⟩ := J.look
  obtain ⟨m, hF⟩ := I2.fr
  refine PySem.W.sub_K hF I2.ok.mod.kin J hm.at_ (hfn f hm.at_) hm.fn ?_ (hsl _ _)
  exact run_at F hr.in1 I2.env0.in1 bi (hx σ) I2 (us := [.ref a', u]) (vs := [.ref a', y]) (.cons rfl (.cons ry .nil)) q2
end
end XX

set_option maxRecDepth 100000
set_option maxHeartbeats 4000000
namespace XX
open PySem PySem.Spec PyProof.Rows L2
section
variable {X : Cx} {k : Nat} {C : Addr} {sp : Sp}
/-- repr(o), by an own __repr__ -/
def rReprI (C : Addr) (sp : Sp) : List V → Hp → VK → Prop := fun xs H Q => ∃ a dx fs, xs = [.ref a] ∧ H a = some (.ins C dx fs) ∧ sp xs H (fun v H' => ∃ z : Str, v = .str z ∧ Q (.str z) H') E0
theorem call_reprI (M : MtC X.prog X.w X.K X.mg X.base CX0 k C "__repr__" ["self"] sp) (hr : Room (k + 1) X.A) : CallR X (.builtin "repr") (rReprI C sp) := by
  intro pins s σ H xs us Q I r h
  obtain ⟨a, dx, fs, rfl, ha, hs⟩ := h
  obtain ⟨f, fd, F, hm, bi⟩ := M.ex
  obtain ⟨u, rfl, ru⟩ := vals1 r
  cases ru
  obtain ⟨mA, J, _⟩ := ins_get I.hok ha
  obtain ⟨od, J, _⟩ := J.look
  obtain ⟨m, hF⟩ := I.fr
  refine PySem.W.repr_K (by have := hr.un; have := hr.in1.un; omega) hF I.ok.mod.kin J hm.at_ hm.fn ?_
  refine wpAny_mono (run_at F hr.in1 I.env0.in1 bi (fun _ _ _ _ _ _ z => z.elim) I (us := [.ref a]) (vs := [.ref a]) (.cons rfl .nil) hs) (fun w s' q => ?_) fun _ _ e => e
  obtain ⟨z, H', I', rz, x, rfl, q⟩ := q
  obtain ⟨tk, rz⟩ := rz
  rw [rz]
  exact (show EP X pins σ Q (.str x tk) s' from ⟨.str x, H', I', ⟨_, rfl⟩, q⟩)
end
end XX

set_option maxRecDepth 100000
set_option maxHeartbeats 4000000
/-! an own __repr__ within an except suite, whatever the handled exception bears -/
namespace XX
open PySem PySem.Spec PyProof.Rows L2 L2H
/-- a def that raises nothing, called while something is handled -/
structure FnW (P : Program) (w : World) (K : PySem.W.Frag) (mg : Str → Option Value) (base : Heap) (k : Nat) (f : Addr) (fd : FuncData) (ps : List Str) (sp : Sp) : Prop where
  len : ∀ vs H Q E, sp vs H Q E → vs.length = ps.length
  run : ∀ (A : Around) (outer : List Env) (s : Shared) (H : Hp) (args : Args) (us : List Value) (vs : List V) (Q : VK) (p : Addr × Obj), RoomH k A → PinOk outer H s p → Env0 P w K mg base A outer s H → BindsTo s fd args (ps.zip us) → Vals vs us → sp vs H Q E0 →
    codeAny (model P w) A (.call (.ref f) args) (CR CX0 outer P w H s Q E0) s
section
variable {P : Program} {w : World} {K : PySem.W.Frag} {mg : Str → Option Value} {base : Heap}
theorem fun_okW {x qual : Str} {st : Stmt} {f : Addr} {fd : FuncData} {N ps : List Str} {k : Nat} {sp : Sp} (F : L2.Fun K x qual st f fd) (S : FnScope N ps (defScope st)) (len : ∀ vs H Q E, sp vs H Q E → vs.length = ps.length)
    (hbody : ∀ (cdv : Value) (A : Around) (outer : List Env) (s : Shared) (H : Hp) (vs : List V) (Q : VK) (p : Addr × Obj), RoomH k (A.deeper (envOfC qual (defScope st) s.heap.objs.size f cdv)) → sp vs H Q E0 →
      ∃ t, PSs (cxH CX0 P w K mg base N qual (defScope st) f cdv A outer s H E0 p) (defBody st) t ∧ t { nx := fun _ H' => Q .non H', rt := Q } (L2.start N vs) H) : FnW P w K mg base (k + 1) f fd ps sp := by
  obtain ⟨oc, od, kV, doc, pm, an, cdv, ct, osl, rfl, lk, hcd⟩ := F.ex
  constructor
  · exact len
  intro A outer s H args us vs Q p hr hpin e0 hb r hsp
  have kept : s.heap.NoLimit := e0.mod.nolimit.keeps fun b o e => (e0.bs b o e).1
  have inH : K.In s.heap := e0.mod.kin.keeps fun b o e => (e0.bs b o e).1
  have kinds : ∀ y ∈ ps.zip us, (defScope st).names.lookup y.1 = some .local ∨ ((defScope st).names.lookup y.1 = some .cell ∧ ((cellsFrom (s.heap.objs.size + 1) (defScope st).names []).lookup y.1).isSome = true) := by
    rintro ⟨n, v⟩ hy
    cases S.par n (List.of_mem_zip hy).1 with
    | inl q => exact .inl q
    | inr q => exact .inr ⟨q, PySem.W.cellsFrom_some _ _ _ (.inl q)⟩
  refine codeAny_call_function hr.depth (inH _ _ lk) rfl S.co S.gen rfl (PySem.W.codeRec_of inH hcd) (hb _ _ _ _ ?_)
  refine wpAny_newFunctionEnv_cells S.kind kinds ?_
  rintro env rfl s1 x
  obtain ⟨t, ht, hq⟩ := hbody cdv A outer s H vs Q p (hr.deeper _) hsp
  have I := inv_startH (CX := CX0) (E := E0) S hpin e0 (len _ _ _ _ hsp) r x
  refine ⟨kept.keeps x.toInCall.keep, codeAny_func (wpAny_mono (ht.run [] s1 _ H _ I hq) ?_ fun e s' hs => hs)⟩
  rintro fl s' hs
  cases fl with
  | ret u =>
    obtain ⟨v, σ', H', J, rv, q⟩ := hs
    exact ⟨v, H', J.os, J.bare, J.base, J.hok, rv, q⟩
  | next =>
    obtain ⟨σ', H', J, q⟩ := hs
    exact ⟨V.non, H', J.os, J.bare, J.base, J.hok, rfl, q⟩
  | brk =>
    obtain ⟨_, _, _, z⟩ := hs
    exact z.elim
  | cont =>
    obtain ⟨_, _, _, z⟩ := hs
    exact z.elim
end
section
variable {X : Cx} {k : Nat} {f C : Addr} {fd : FuncData} {sp : Sp}
theorem RoomH.in1 {k : Nat} {A : Around} (r : RoomH (k + 1) A) : RoomH k A.in1 :=
  ⟨by have := r.dp; show A.depth + 3 * k + 5 < _; omega, by have := r.un; show A.units + 1 + 16 * k + 200 < _; omega⟩
/-- repr(o), by an own __repr__, while something is handled -/
theorem call_reprW (F : FnW X.prog X.w X.K X.mg X.base k f fd ["self"] sp) (hm : Meth X.K C "__repr__" f) (bi : Binds X.K fd ["self"] []) (hr : RoomH (k + 1) X.A) {p : Addr × Obj} (hp : p ∈ X.pn) : CallR X (.builtin "repr") (rReprI C sp) := by
  intro pins s σ H xs us Q I r h
  obtain ⟨a, dx, fs, rfl, ha, hs⟩ := h
  obtain ⟨u, rfl, ru⟩ := vals1 r
  cases ru
  obtain ⟨mA, J, _⟩ := ins_get I.hok ha
  obtain ⟨od, J, _⟩ := J.look
  obtain ⟨m, hF⟩ := I.fr
  refine PySem.W.repr_K (by have := hr.un; have := (RoomH.in1 hr).un; omega) hF I.ok.mod.kin J hm.at_ hm.fn ?_
  have pk := I.pin p (List.mem_append_left _ hp)
  have hpin : PinOk X.stack H s p := by
    refine ⟨pk.1, pk.2.1, fun z => ?_, pk.2.2.2.2⟩
    rcases List.mem_cons.mp (I.stkSub p.1 z) with z | z
    · exact pk.2.2.1 z
    · exact pk.2.2.2.1 z
  have b := bi s [.ref a] I.kIn (by rfl)
  rw [List.append_nil] at b
  refine wpAny_call (codeAny_mono (F.run X.A.in1 X.stack s H ⟨[.ref a], []⟩ [.ref a] [.ref a] _ p (RoomH.in1 hr) hpin I.env0.in1 b (.cons rfl .nil) hs) fun r s' hq => ?_)
  cases r with
  | error e => exact hq.elim
  | ok fl =>
    cases fl with
    | ret u =>
      obtain ⟨z, H', I', rz, x, rfl, q⟩ := I.after hq
      obtain ⟨tk, rz⟩ := rz
      rw [rz]
      exact (show EP X pins σ Q (.str x tk) s' from ⟨.str x, H', I', ⟨_, rfl⟩, q⟩)
    | next => exact hq.elim
    | brk => exact hq.elim
    | cont => exact hq.elim
end
end XX

set_option maxRecDepth 100000
set_option maxHeartbeats 4000000
/-! comprehensions over a tuple while an exception whose context is None is handled -/
namespace XX
open PySem PySem.Spec PyProof.Rows L2 L2H HotX
theorem tup_end_hot {prog : Program} {w : World} {A : Around} {E : Value → Shared → Prop} {s : Shared} {it t x1 : Addr} {i : Nat} {items : Array Value} {Q : Option Value → Shared → Prop} (hot : HotAt A x1 s.heap) (ne : it ≠ x1)
    (hit : s.heap.IsTupleIter it t i) (ht : s.heap.IsTuple t items) (hx : items[i]? = none) (hQ : ∀ h', s.heap.ExtBut it h' → Q none { s with heap := h' }) : wpAny (model prog w) A (pyNext (.ref it)) Q E s := by
  obtain ⟨hh, o1, vs1, h1, d1, c1⟩ := hot
  obtain ⟨o, ho, hc, hd⟩ := id hit
  obtain ⟨ol, hol, _, nl, hdl⟩ := ht
  unfold pyNext
  refine wpAny_bind (wpAny_attempt (wpAny_callSpecial?_slot (name := Str.ofString "__next__") hit.typeIs PySem.F.slot_tuple_iterator_next (wpAny_call_entry PySem.F.slot_tuple_iterator_next hit.typeIs PySem.F.entry_tuple_iterator_next ?_ (PySem.F.args_tuple_iterator_next_1 _))))
  refine (show wpAny _ _ (field (.ref it) 0 >>= _) _ _ s from wpAny_bind (wpAny_field ho hd (x := .ref t) rfl ?_))
  have nn : ¬ ((Value.ref t == Value.none) = true) := fun z => by cases z
  refine (show wpAny _ _ (if (Value.ref t == Value.none) = true then _ else _) _ _ s from ?_)
  rw [if_neg nn]
  refine (show wpAny _ _ (field (.ref it) 1 >>= _) _ _ s from wpAny_bind (wpAny_field ho hd (x := .int i 0) rfl ?_))
  refine (show wpAny _ _ (seqItems? (.ref t) >>= _) _ _ s from wpAny_bind (wpAny_seqItems hol hdl ?_))
  simp only [Int.toNat_natCast, hx]
  refine wpAny_bind (wpAny_rule (wpAny_bind (wpAny_setField ho hd (by simp) ?_)))
  refine (show wpAny _ _ (newExc (.type "StopIteration") [] >>= _) _ _ _ from wpAny_bind ?_)
  simp only [newExc, newTuple]
  have h2 := (Heap.get?_update_other s.heap (Obj.mapFields (·.setIfInBounds 0 Value.none)) ne).trans h1
  refine wpAny_bind (wpAny_newObj_type ?_ (by size_fits))
  refine wpAny_bind (m := firstArgMember _ _) (wpAny_of_eq (a := Value.none) (by first | rfl | (simp only [firstArgMember]; rfl)) (wpAny_newObj_type ?_ (by size_fits)))
  have h3 := fun o1 o2 => Heap.get?_push_of_some o2 (Heap.get?_push_of_some o1 h2)
  refine raiseNew_hot ⟨hh, _, vs1, h3 _ _, d1, c1⟩ (Nat.ne_of_lt (Heap.lt_size (Heap.get?_push_of_some _ h2))) (Heap.get?_push_size _ rfl) rfl (by first | (simp; done) | (simp; omega)) ?_
  refine wpAny_bind (wpAny_isInstance (T := "StopIteration") (b := true) ⟨_, Heap.get?_update_self _ (Heap.get?_push_size _ rfl) rfl, rfl⟩ isSubtype_stop (wpAny_pure (hQ _ fun b o nb e => ?_)))
  have e2 := (Heap.get?_update_other s.heap (Obj.mapFields (·.setIfInBounds 0 Value.none)) (Ne.symm nb)).trans e
  have e3 := fun o1 => Heap.get?_push_of_some o1 e2
  rw [Heap.get?_update_other _ _ (Nat.ne_of_gt (Heap.lt_size (e3 _)))]
  exact Heap.get?_push_of_some _ (e3 _)
/-! ### iterators walked while an exception is handled -/
/-- as Turn, but at the end the handled exception is told in the place of a calm context -/
structure TurnW (P : Program) (w : World) (K : PySem.W.Frag) (tg : Expr) (J : It) (fp : List Addr) (it : Addr) (tn : Nat → Heap → Prop) : Prop where
  obj : ∀ n g, tn n g → ∀ y ∈ fp, ∃ o, g.get? y = some o ∧ ∀ v, o.data ≠ .cell v
  keep : ∀ n g g', tn n g → (∀ y ∈ fp, ∀ o, g.get? y = some o → g'.get? y = some o) → tn n g'
  item : ∀ (X : Cx), X.prog = P → X.w = w → X.K = K → ∀ (n : Nat) (pins : List (Addr × Obj)) (s : Shared) (σ : L2.St) (H : Hp) (E : Value → Shared → Prop), Inv X pins σ H s → (∀ y ∈ fp, FpOk X pins H y) → tn n s.heap → J.go n H →
    wpAny (model P w) X.A (pyNext (.ref it)) (fun r s1 => ∃ u, r = some u ∧ wpAny (model P w) X.A (letOwnedTupleGo tg (.ref it) u) (fun _ s2 => ∃ x H', Inv X pins σ H' s2 ∧ RelV x u ∧ J.yld n H x H' ∧ tn (n + 1) s2.heap ∧ ∀ y ∈ fp, H' y = none) E s1) E s
  done : ∀ (X : Cx), X.prog = P → X.w = w → X.K = K → ∀ (n : Nat) (pins : List (Addr × Obj)) (s : Shared) (σ : L2.St) (H : Hp) (E : Value → Shared → Prop) (x1 : Addr), HotAt X.A x1 s.heap → x1 ∉ fp → Inv X pins σ H s → (∀ y ∈ fp, FpOk X pins H y) → tn n s.heap → J.stop n H →
    wpAny (model P w) X.A (pyNext (.ref it)) (fun r s1 => r = none ∧ Inv X pins σ H s1) E s
  self : ∀ (A : Around) (n : Nat) (s : Shared) (Q : Value → Shared → Prop) (E : Value → Shared → Prop), tn n s.heap → Q (.ref it) s → wpAny (model P w) A (pyIter (.ref it)) Q E s
theorem turnW_tuple {P : Program} {w : World} {K : PySem.W.Frag} {tg : Expr} (a it : Addr) : TurnW P w K tg (Itt K a) [it] it (fun n g => g.IsTupleIter it a n) where
  obj := fun n g st y hy => by
    cases List.mem_singleton.mp hy
    obtain ⟨o, e, _, d⟩ := st
    exact ⟨o, e, fun v z => by rw [d] at z; cases z⟩
  keep := fun n g g' st k => st.at fun o e => k it (List.mem_singleton.mpr rfl) o e
  item := by
    rintro X rfl rfl rfl n pins s σ H E I hf st ⟨xs, x, hq, hx⟩
    obtain ⟨its, rv, p, _⟩ := I.tuple hq
    obtain ⟨u, hu, ru⟩ := rv.get hx
    have F := hf it (List.mem_singleton.mpr rfl)
    refine wpAny_pyNext_tuple_item st (show s.heap.IsTuple a its.toArray from p) (x := u) (by simpa using hu) fun h' st' sb => ⟨u, rfl, ?_⟩
    obtain ⟨o, e, c, d⟩ := id st'
    exact go_of (s := { s with heap := h' }) e c d (by decide) ⟨x, H, I.turned (t' := s.toks) (fun b o hb e => (sb.2 b hb).trans e) F.1 F.2.1 F.2.2.2.1 F.2.2.2.2.1 F.2.2.2.2.2, ru, ⟨rfl, fun ys hy => by rw [I.tuple_inj hy hq]; exact hx⟩, st', fun y hy => (hf y hy).1⟩
  done := by
    rintro X rfl rfl rfl n pins s σ H E x1 hot nx I hf st ⟨xs, hq, hx⟩
    obtain ⟨its, rv, p, _⟩ := I.tuple hq
    have F := hf it (List.mem_singleton.mpr rfl)
    have hl := rv.length
    exact tup_end_hot hot (fun z => nx (List.mem_singleton.mpr z.symm)) st (show s.heap.IsTuple a its.toArray from p) (by simp; omega) fun h' eb => ⟨rfl, I.turned (t' := s.toks) (fun b o hb e => eb b o hb e) F.1 F.2.1 F.2.2.2.1 F.2.2.2.2.1 F.2.2.2.2.2⟩
  self := fun _ _ _ _ _ st q => wpAny_pyIter_tupleiter st q
def PIEW (X : Cx) (pins : List (Addr × Obj)) (σ : L2.St) (tg : Expr) (R : It → Hp → Prop) (itv : Value) (s2 : Shared) : Prop :=
  ∃ (it : Addr) (fp : List Addr) (tn : Nat → Heap → Prop) (J : It) (H' : Hp), itv = .ref it ∧ Inv X pins σ H' s2 ∧ TurnW X.prog X.w X.K tg J fp it tn ∧ tn 0 s2.heap ∧ (∀ y ∈ fp, FpOk X pins H' y) ∧ R J H'
def PIW (X : Cx) (tg iter : Expr) (wi : TI) : Prop := ∀ (pins : List (Addr × Obj)) (s : Shared) (σ : L2.St) (H : Hp) (R : It → Hp → Prop), Inv X pins σ H s → wi σ H R →
  wpAny (model X.prog X.w) X.A (eval iter X.env) (fun v s1 => wpAny (model X.prog X.w) X.A (pyIter v) (PIEW X pins σ tg R) X.xe s1) X.xe s
section
variable {X : Cx}
theorem piW_tup {tg l : Expr} {tl : TE} (hl : PE X l tl) : PIW X tg l (iTup X.K tl) := by
  rintro pins s σ H R I h
  refine thn (hl.run pins s σ H _ I h) ?_
  rintro v s1 ⟨x, H1, I1, r1, a, rfl, ⟨xs, hq⟩, q⟩
  cases r1
  obtain ⟨its, rv, p, _⟩ := I1.tuple hq
  refine wpAny_pyIter_tuple (show s1.heap.IsTuple a its.toArray from p) ⟨s1.heap.objs.size, [s1.heap.objs.size], _, _, H1, rfl, I1.kept (t' := s1.toks) fun b o e => Heap.get?_push_of_some _ e, turnW_tuple a _, ⟨_, Heap.get?_push_size _ rfl, rfl, rfl⟩, fun y hy => ?_, q⟩
  cases List.mem_singleton.mp hy
  exact I1.fpOk (Nat.le_refl _) (I1.hok.fresh (Nat.le_refl _))
/-- the block of a list comprehension, while an exception is handled -/
theorem lcW_core {pins : List (Addr × Obj)} {s : Shared} {σ : L2.St} {H : Hp} {Q : VK} {elt tg iter : Expr} {ifs : List Expr} {scope : Scope} {own : List (Str × Nat)} {pos pos' : Pos} {wi : TI} {g : TG} {tt : TT} {te : TE} {use : Option (Value → Sem Unit)} {Qf : Value → Shared → Prop}
    (hot : HotC X) (hN : X.N.Nodup) (I : Inv X pins σ H s) (hi : PIW X tg iter wi) (ok : BlkOk X.N X.env.scope scope own)
    (hb : ∀ (s : Shared) (H : Hp) (C : Addr) (cl : List (Str × Addr)) (fp : List Addr), PG (X.blk s H scope (compEnvC scope cl C X.env) fp) tg g ∧ PTs (X.blk s H scope (compEnvC scope cl C X.env) fp) ifs tt ∧ PE (X.blk s H scope (compEnvC scope cl C X.env) fp) elt te)
    (hs : ∀ x, foldedSetIterable iter X.env x = pure x) (h : tLc wi g tt te (own.map (·.2)) σ H Q)
    (hRR : ∀ D C s' m H', Inv X pins σ H' s' → Q (.ref D) H' → s'.heap.Ns C m → FpOk X pins H' C → compPost (model X.prog X.w) X.A X.xe use Qf (.ref D) C (.ok .next) s') :
    wpAny (model X.prog X.w) X.A (comprehension (.ListComp elt [⟨tg, iter, ifs, 0⟩] scope pos) scope X.env pos' (newList []) false (eval iter X.env) use) Qf X.xe s := by
  refine wpAny_comprehension_free (use := use) rfl hs (closure_ok fun y hy e => (ok.free y hy e).elim (fun k => I.ok.has _ (.inl k)) fun k => I.ok.has _ (.inr k)) ok.kind (fun y hy e => by rw [ok.uniq y hy, e]) (thn (hi pins s σ H _ I h) fun xv s1 hx => thn hx ?_)
  rintro _ s2 ⟨it, fp, tn, J, H2, rfl, I2, T, st2, f2, q⟩
  refine wpAny_newObj_type (newEnv_comp ?_) (by show 0 ≤ sizeLine; decide)
  obtain ⟨D, hD⟩ : ∃ D, s2.heap.objs.size = D := ⟨_, rfl⟩
  rw [hD]
  obtain ⟨W, ⟨m0, w0⟩, turn⟩ := q D (I2.hok.fresh (Nat.le_of_eq hD))
  -- the new list
  obtain ⟨s3, hs3⟩ : ∃ s3 : Shared, { s2 with heap := s2.heap.push { cls := .type "list", data := .seq ([] : List Value).toArray } } = s3 := ⟨_, rfl⟩
  have h3 : s3.heap = s2.heap.push { cls := .type "list", data := .seq ([] : List Value).toArray } := by rw [← hs3]
  have I3 : Inv X pins σ (upd H2 D (.lst [])) s3 := by
    rw [← hs3]
    exact I2.laid (t' := s2.toks) (fun b o e => Heap.get?_push_of_some _ e) (Nat.le_of_eq hD) ⟨Nat.zero_le _, [], 0, .nil, by rw [← hD]; exact Heap.get?_push_size _ rfl⟩
  have f3 : ∀ y ∈ fp, FpOk X pins (upd H2 D (.lst [])) y ∧ y < s3.heap.objs.size := fun y hy => by
    obtain ⟨o, e, _⟩ := T.obj _ _ st2 y hy
    have hlt := Heap.lt_size e
    exact ⟨⟨(upd_ne (by rw [← hD]; exact Nat.ne_of_lt hlt)).trans (f2 y hy).1, (f2 y hy).2⟩, by rw [h3, Heap.size_push]; exact Nat.lt_succ_of_lt hlt⟩
  have st3 : tn 0 s3.heap := T.keep _ _ _ st2 fun y _ o e => by rw [h3]; exact Heap.get?_push_of_some _ e
  have I4 := block_start I3 ok hN f3
  rw [hs3]
  obtain ⟨pg, pt, pe⟩ := hb s3 (upd H2 D (.lst [])) s3.heap.objs.size (cellsFrom (s3.heap.objs.size + 1) scope.names (cloFrom X.env.cells scope.names [])) fp
  show codeAny _ _ (.compStart (.ListComp elt [⟨tg, iter, ifs, 0⟩] scope pos) 0 (.ref it) (.ref D) (compEnvC scope (cellsFrom (s3.heap.objs.size + 1) scope.names (cloFrom X.env.cells scope.names [])) s3.heap.objs.size X.env)) (compPost (model X.prog X.w) X.A X.xe use Qf (.ref D) s3.heap.objs.size) { s3 with heap := pushCells (s3.heap.push { cls := .type "dict", data := .dict #[] }) scope.names }
  have w0 : W 0 m0 (upd H2 D (.lst [])) := w0
  generalize upd H2 D (.lst []) = H3 at I3 I4 pg pt pe w0 f3
  obtain ⟨ce, hce⟩ : ∃ ce, compEnvC scope (cellsFrom (s3.heap.objs.size + 1) scope.names (cloFrom X.env.cells scope.names [])) s3.heap.objs.size X.env = ce := ⟨_, rfl⟩
  have cL : ce.locals = s3.heap.objs.size := by rw [← hce]; rfl
  rw [hce] at I4 pg pt pe ⊢
  obtain ⟨s4, hs4⟩ : ∃ s4 : Shared, { s3 with heap := pushCells (s3.heap.push { cls := .type "dict", data := .dict #[] }) scope.names } = s4 := ⟨_, rfl⟩
  rw [hs4] at I4 ⊢
  have st4 : tn 0 s4.heap := T.keep _ _ _ st3 fun y _ o e => by rw [← hs4]; exact pushCells_keeps _ _ _ _ (Heap.get?_push_of_some _ e)
  have stat : ∀ {σ' : L2.St} {H' : Hp} {s' : Shared}, Inv (X.blk s3 H3 scope ce fp) [] σ' H' s' → (∀ y ∈ fp, H' y = none) → ∀ y ∈ fp, FpOk (X.blk s3 H3 scope ce fp) [] H' y := fun {σ' H' s'} I' hn y hy =>
    ⟨hn y hy, (I'.ok.exf y hy).1, I'.ok.exfs y hy, .inl hy, fun x c e => (I'.ok.exf y hy).2 x c e, fun p hp => absurd (show p ∈ ([] : List (Addr × Obj)) ++ [] from hp) List.not_mem_nil⟩
  -- the handled exception stands all along
  obtain ⟨p, ⟨hh, v1, e1, c1⟩, hp⟩ := hot
  obtain ⟨P1, P2, P3, P4, _⟩ := I3.pin p (List.mem_append_left _ hp)
  have pfp : p.1 ∉ fp := fun z => (f3 p.1 z).1.2.2.2.2.2 p (List.mem_append_left _ hp) rfl
  have pst : p.1 ∉ frs X.stack := fun z => (List.mem_cons.mp (I3.stkSub p.1 z)).elim P3 P4
  have hotAt : ∀ {σ' : L2.St} {H' : Hp} {s' : Shared}, Inv (X.blk s3 H3 scope ce fp) [] σ' H' s' → HotAt X.A p.1 s'.heap := fun {σ' H' s'} I' => ⟨hh, p.2, v1, I'.base.keep p.1 p.2 P1 P2 pst pfp, e1, c1⟩
  have loop : codeAny (model X.prog X.w) X.A (.compLoop (.ListComp elt [⟨tg, iter, ifs, 0⟩] scope pos) 0 (.ref it) (.ref D) ce) (compPost (model X.prog X.w) X.A X.xe use Qf (.ref D) s3.heap.objs.size) s4 := by
    refine compLoop_any (fun n s' => ∃ i H', Inv (X.blk s3 H3 scope ce fp) [] (wipe σ (own.map (·.2))) H' s' ∧ tn i s'.heap ∧ (∀ y ∈ fp, H' y = none) ∧ W i n H') ?_ m0 ⟨0, H3, I4, st4, fun y hy => (f3 y hy).1.1, w0⟩
    rintro n s5 ⟨i, H5, I5, st5, n5, w5⟩
    rcases turn i n H5 w5 with ⟨stop, qq⟩ | ⟨go, Nx, hNx, step⟩
    · refine thnF (T.done (X.blk s3 H3 scope ce fp) rfl rfl rfl i [] s5 _ H5 (fun _ _ => False) p.1 (hotAt I5) pfp I5 (stat I5 n5) st5 stop) ?_
      rintro r s6 ⟨rfl, I6⟩
      have nC : H5 ce.locals = none := I6.free
      obtain ⟨m, hn, _⟩ := I6.loc
      have hn : s6.heap.Ns ce.locals m := hn
      rw [cL] at hn nC
      exact hRR D s3.heap.objs.size s6 m H5 (I3.call' (ch := fp) I6.os I6.base I6.hok I6.bare fun y hy => ⟨(f3 y hy).1.2.2.2.1, (f3 y hy).1.2.1, (f3 y hy).1.2.2.2.2.1, (f3 y hy).1.2.2.2.2.2⟩) qq hn (I3.fpOk (Nat.le_refl _) nC)
    · refine thnF (T.item (X.blk s3 H3 scope ce fp) rfl rfl rfl i [] s5 _ H5 (fun _ _ => False) I5 (stat I5 n5) st5 go) ?_
      rintro r s6 ⟨u, rfl, h6⟩
      refine thnF h6 ?_
      rintro _ s7 ⟨x, H7, I7, r7, y7, st7, n7⟩
      have I7' := I7.pinned (stat I7 n7) (T.obj _ _ st7)
      refine thnF (pg.run _ s7 _ H7 x u _ I7' r7 (step x H7 y7)) ?_
      rintro _ s8 ⟨σ8, H8, I8, hw8, q8⟩
      refine thnF (pt.run _ s8 σ8 H8 _ I8 q8) ?_
      rintro b s9 ⟨H9, I9, q9⟩
      have fin : ∀ {s' : Shared} {H' : Hp}, Inv (X.blk s3 H3 scope ce fp) ([] ++ pinsAt fp s7.heap) σ8 H' s' → Nx H' → ∃ m, m < n ∧ ∃ i H', Inv (X.blk s3 H3 scope ce fp) [] (wipe σ (own.map (·.2))) H' s' ∧ tn i s'.heap ∧ (∀ y ∈ fp, H' y = none) ∧ W i m H' := fun {s' H'} I' nx => by
        obtain ⟨m', hm, w'⟩ := hNx H' nx
        have still : ∀ y ∈ fp, ∀ o, s7.heap.get? y = some o → s'.heap.get? y = some o ∧ H' y = none := fun y hy o e =>
          have z := I'.pin (y, o) (List.mem_append_right _ (List.mem_append_right _ (mem_pinsAt hy e)))
          ⟨z.1, z.2.1⟩
        have hl : (wipe σ (own.map (·.2))).length = σ8.length := by rw [← hw8, wipe_length]
        refine ⟨m', hm, i + 1, H', (I'.unpinned (pins := [])).weak hl (fun j v e => (wipe_some (by rw [← hw8] at e; exact e)).1), T.keep _ _ _ st7 fun y hy o e => (still y hy o e).1, fun y hy => ?_, w'⟩
        obtain ⟨o, e, _⟩ := T.obj _ _ st7 y hy
        exact (still y hy o e).2
      cases b with
      | false => exact fin I9 q9
      | true =>
        have q9 := q9
        simp only [if_true] at q9 ⊢
        refine thnF (pe.run _ s9 σ8 H9 _ I9 q9) ?_
        rintro z s10 ⟨yv, H10, I10, r10, acc, hD10, hz10, nx⟩
        exact app_ok (X := X.blk s3 H3 scope ce fp) I10 hD10 hz10 r10 fun s11 I11 => fin I11 nx
  exact codeAny_compStart_list loop (T.self X.A 0 _ _ _ st4 loop)
/-- n = [..] on one line, while an exception is handled -/
theorem ps_setLcW {i : Nat} {y : Str} {py : Pos} {elt tg iter : Expr} {ifs : List Expr} {scope : Scope} {own : List (Str × Nat)} {pos spos : Pos} {wi : TI} {g : TG} {tt : TT} {te : TE} (hot : HotC X) (hN : X.N.Nodup) (hy : X.N[i]? = some y) (hyl : X.env.scope.names.lookup y = some .local)
    (hsw : swapsWith (.ListComp elt [⟨tg, iter, ifs, 0⟩] scope pos) (some (.Name y py)) spos.line X.env = pure true) (hi : PIW X tg iter wi) (ok : BlkOk X.N X.env.scope scope own)
    (hb : ∀ (s : Shared) (H : Hp) (C : Addr) (cl : List (Str × Addr)) (fp : List Addr), PG (X.blk s H scope (compEnvC scope cl C X.env) fp) tg g ∧ PTs (X.blk s H scope (compEnvC scope cl C X.env) fp) ifs tt ∧ PE (X.blk s H scope (compEnvC scope cl C X.env) fp) elt te)
    (hs : ∀ x, foldedSetIterable iter X.env x = pure x := by intro _; rfl) : PS X (.Assign [.Name y py] (.ListComp elt [⟨tg, iter, ifs, 0⟩] scope pos) spos) (tAsg (tLc wi g tt te (own.map (·.2))) (gName i)) := by
  refine ⟨fun pins s σ H D I h => ?_⟩
  rw [exec_Assign_Name_used _ _ _ _ hsw]
  refine wpAny_bind (wpAny_standAt (wpAny_bind ?_))
  refine (show wpAny _ X.A (do let _ ← comprehension (.ListComp elt [⟨tg, iter, ifs, 0⟩] scope pos) scope X.env (firstIterPos [⟨tg, iter, ifs, 0⟩] pos) (newList []) false (eval iter X.env) (some (assign (.Name y py) X.env))) _ _ s from wpAny_bind ?_)
  have h : tLc wi g tt te (own.map (·.2)) σ H (fun x H1 => gName i x σ H1 D.nx) := h
  refine thn (lcW_core (Qf := fun _ s' => SP X pins D .next s') hot hN I hi ok hb hs h fun L C s' m H' I' q hn f => ?_) fun _ s' hq => wpAny_pure (wpAny_pure hq)
  refine (show wpAny _ _ (assign (.Name y py) X.env (.ref L)) _ _ _ from wpAny_assign_Name (store_ok2 (v := V.ref L) I' hN hy (.inl hyl) rfl ?_ (.inr hyl)))
  rintro s2 I2 ⟨a, sb, ha⟩
  have haC : C ≠ a := ha.elim (fun z => by rw [z]; exact f.2.1) fun z e => f.2.2.2.2.1 y a z e.symm
  exact ⟨m, hn.sameBut sb haC, fun h3 sb3 => ⟨_, H', I2.turned (t' := s2.toks) (fun b o hb e => (sb3.2 b hb).trans e) f.1 f.2.1 f.2.2.2.1 f.2.2.2.2.1 f.2.2.2.2.2, q⟩⟩
end
end XX

set_option maxRecDepth 100000
set_option maxHeartbeats 4000000
/-! try: .. except (C1, C2) as n: .. -/
namespace XX
open PySem PySem.Spec PyProof.Rows L2
def wAs2 (K : PySem.W.Frag) (c1 c2 : Value) (i : Nat) (ts : Addr → Value → Option Addr → TS) (Wout : WX) (D : Ends) : WX := fun cls d σ H =>
  ∃ b, PySem.W.exmAny K cls [c1, c2] = some b ∧ (b = true → ∀ a, H a = none → ts a cls d { nx := fun σ' H' => D.nx (σ'.set i none) H', rt := D.rt, bk := fun σ' H' => D.bk (σ'.set i none) H', ct := fun σ' H' => D.ct (σ'.set i none) H' } (σ.set i (some (.ref a))) H) ∧
    (b = false → Wout cls d σ H)
theorem flyingZ_keeps {B h h' : Heap} {l : List Env} {a : Addr} {Z : Obj → Prop} (k : ∀ b o, h.get? b = some o → h'.get? b = some o) (x : HandSPX.FlyingZ B l a Z h) : HandSPX.FlyingZ B l a Z h' := by
  obtain ⟨k1, k2, k3, oe, vs, T, oT, ts, he, hz, hd, h1, hb, hne, hT, r⟩ := x
  exact ⟨fun b o e => k _ _ (k1 b o e), k2, Heap.FunFrames.of_keeps (fun b o e _ => ⟨o, k _ _ e, rfl⟩) k3, oe, vs, T, oT, ts, k _ _ he, hz, hd, h1, hb, hne, k _ _ hT, r⟩
section
variable {X : Cx} {n x1 x2 : Str} {c1 c2 : Value} {i kk : Nat} {body suite : List Stmt} {b₀ : Stmt} {p1 p2 tpos pos' pos : Pos} {tb : WX → TS} {ts : Addr → Value → Option Addr → TS} {Wout : WX}
theorem ps_try_two (hs : X.stack = X.env :: X.outer) (hf : X.env.frame = some X.env.locals) (hN : X.N.Nodup) (hi : X.N[i]? = some n) (hln : X.env.kindOf n = some .local) (hc1 : Names X x1 c1) (hc2 : Names X x2 c2) (tk : Takes X Wout)
    (hb : ∀ (W : WX) (pn : List (Addr × Obj)) (xe : Value → Shared → Prop), Takes (X.tr pn xe) W → PassesOwn (model X.prog X.w) X.A X.env xe → PSs (X.tr pn xe) body (tb W))
    (hsu : ∀ (a : Addr) (oe : Obj) (cls : Value) (d : Option Addr) (pn : List (Addr × Obj)), Zc cls d oe → (∃ vs, oe.data = .fields vs) → PSs (X.suite a ((a, oe) :: pn)) (b₀ :: suite) (ts a cls d)) :
    PS X (.Try body [.ExceptHandler (some (.Tuple [.Name x1 p1, .Name x2 p2] kk tpos)) (some n) (b₀ :: suite) pos'] [] [] pos) (fun D σ H => tb (wAs2 X.K c1 c2 i ts Wout D) D σ H) := by
  refine ⟨fun pins s σ H D I h => ?_⟩
  have ok := I.ok
  have hfr : X.A.frames = some (X.env :: X.outer) := by rw [ok.frames, hs]
  have hloc : Loc X.env.scope n := .inl hln
  generalize hhds : [ExceptHandler.ExceptHandler (some (.Tuple [.Name x1 p1, .Name x2 p2] kk tpos)) (some n) (b₀ :: suite) pos'] = hds
  have hne : hds ≠ [] := by rw [← hhds]; simp
  obtain ⟨h0, hds0, rfl⟩ : ∃ h0 hds0, hds = h0 :: hds0 := by
    cases hds with
    | nil => exact absurd rfl hne
    | cons a b => exact ⟨a, b, rfl⟩
  refine wpAny_Try_except (wpAny_mono ((hb (wAs2 X.K c1 c2 i ts Wout D) (X.pn ++ pins) (fun e s₁ => wpAny (model X.prog X.w) X.A (noteFrame e X.env) (fun _ s₂ => wpAny (model X.prog X.w) X.A (setFlight e none) (fun _ s₃ =>
    wpAny (model X.prog X.w) X.A (handleBy e X.env (h0 :: hds0)) (SP X pins D) X.xe s₃) X.xe s₂) X.xe s₁) (fun u s' xx => ?_) PassesOwn.looking).run [] s σ H D (I.toTry _) h) (fun f s1 hsp => ?_) (fun e s1 he => he))
  · rw [← hhds]
    obtain ⟨a, B, sI, pins', σ', H', cls, d, rfl, J', nb, up, sky, na, os, ag, b, hb1, hyes, hno⟩ := xx
    have J : Inv X pins σ' H' sI := J'.ofTry ok
    rw [hs] at sky
    refine Sky.land Zc.steady hfr hf sky fun h3 fl3 up3 => ?_
    have J3 : Inv X pins σ' H' { s' with heap := h3 } := J.landed nb fl3.1 (up.trans up3) os ag
    obtain ⟨oe3, vs3, he3, hz3, hd3⟩ := fl3.there
    have nfr : a ∉ frs (X.env :: X.outer) := fun hm => by
      obtain ⟨_, o', e', hnf⟩ := fl3.2.2.1.mem hm
      rw [he3] at e'
      cases e'
      exact hnf _ hd3
    have nL : a ≠ X.env.locals := fun z => nfr (List.mem_filterMap.mpr ⟨X.env, List.mem_cons_self, by rw [hf, z]⟩)
    have nF : a ∉ X.fs := fun hm => by
      obtain ⟨e, he, q⟩ := List.mem_filterMap.mp hm
      exact nfr (List.mem_filterMap.mpr ⟨e, List.mem_cons_of_mem _ he, q⟩)
    have S3 := J3.suite he3 hd3 na nL nF
    refine wpAny_handleBy_cons (codeAny_handlers_test ?_) (by intro q; cases q)
    have LT : PySem.W.Looks (model X.prog X.w) h3 (typeOf (.ref a)) cls := fun A Q E s k q => wpAny_typeOf_ref (k _ _ he3) (by rw [hz3.1]; exact q)
    have test : ∀ {x : Str} {c : Value} {np : Pos}, Names X x c → ∀ {Q : Value → Shared → Prop} {E : Value → Shared → Prop}, Q c { s' with heap := h3 } → wpAny (model X.prog X.w) (X.A.mark (some (.ref a))) (eval (.Name x np) X.env) Q E { s' with heap := h3 } := by
      rintro x c np ⟨hg, hdbg, hm | ⟨hm, hv, hnn⟩⟩ Q E q
      · exact ld_glob (X := X.suite a ((a, oe3) :: (X.pn ++ pins))) S3 hg hm q hdbg
      · exact ld_blt (X := X.suite a ((a, oe3) :: (X.pn ++ pins))) S3 hg hm hv q hnn hdbg
    refine wpAny_Tuple (wpAny_items_cons (test hc1 (wpAny_items_cons (test hc2 (wpAny_items_nil ⟨by size_fits, ?_⟩)))))
    have kp : ∀ q o, h3.get? q = some o → (h3.push { cls := .type "tuple", data := .seq [c1, c2].toArray }).get? q = some o := fun _ _ z => Heap.get?_push_of_some _ z
    refine (PySem.W.exm_tup2 (J3.kIn.keeps kp) (LT.keeps kp) (Heap.get?_push_size h3 rfl) hb1).here ?_
    have flp := flyingZ_keeps kp fl3
    have upp := (up.trans up3).trans (Heap.UpToSlots.of_keeps kp)
    cases b with
    | true =>
      refine codeAny_handlers_suite_as (HandSPX.lands_againZ flp fun h4 fl4 up4 => ?_)
      have J4 : Inv X pins σ' H' { s' with heap := h4 } := J.landed nb fl4.1 (upp.trans up4) os ag
      obtain ⟨oe4, vs4, he4, hz4, hd4⟩ := fl4.there
      have S4 := J4.suite he4 hd4 na nL nF
      refine store_ok (X := X.suite a ((a, oe4) :: (X.pn ++ pins))) (v := .ref a) S4 hN hi hloc rfl (fun s5 S5 => ?_) (.inr hln)
      refine wpAny_mono ((hsu a oe4 cls d (X.pn ++ pins) hz4 ⟨_, hd4⟩).run [] s5 _ H' _ S5 (hyes rfl a na)) (fun f s6 hsp => ?_) (fun _ _ z => False.elim z)
      have stop : ∀ {τ : L2.St} {H6 : Hp} {Q : Shared → Prop}, Inv (X.suite a ((a, oe4) :: (X.pn ++ pins))) [] τ H6 s6 → (∀ s7, Inv X pins (τ.set i none) H6 s7 → Q s7) →
          wpAny (model X.prog X.w) X.A (do bindName X.env n .none; unbindBehindTheSuite X.env n pos') (fun _ s7 => Q s7) X.xe s6 := fun {τ H6 Q} S6 hq => gone_ok (S6.unsuite ok) hN hi hln hq
      match f, hsp with
      | .next, ⟨τ, H6, S6, q6⟩ => exact stop S6 fun s7 J7 => ⟨_, _, J7, q6⟩
      | .brk, ⟨τ, H6, S6, q6⟩ => exact stop S6 fun s7 J7 => ⟨_, _, J7, q6⟩
      | .cont, ⟨τ, H6, S6, q6⟩ => exact stop S6 fun s7 J7 => ⟨_, _, J7, q6⟩
      | .ret u, ⟨v6, τ, H6, S6, r6, q6⟩ => exact stop S6 fun s7 J7 => ⟨_, _, _, J7, r6, q6⟩
    | false =>
      show wpAny _ X.A (handleBy (.ref a) X.env []) _ _ _
      refine wpAny_handleBy_nil ?_
      obtain ⟨k1, k2, k3, oe, vs, T, oT, ts', he, hz, hd, h1, hr⟩ := id flp
      unfold PySem.passOn
      refine wpAny_bind (wpAny_field he hd h1 ?_)
      rw [if_neg (show ¬ ((Value.ref T == Value.none) = true) from by simp)]
      have fin : wpAny (model X.prog X.w) X.A (setFlight (.ref a) X.env.frame) (fun _ s4 => wpAny (model X.prog X.w) X.A (throw (.ref a) : Sem Flow) (SP X pins D) X.xe s4) X.xe { s' with heap := h3.push { cls := .type "tuple", data := .seq [c1, c2].toArray } } := by
        rw [hf]
        refine HandSPX.setFlight_upZ flp fun h4 hh4 up4 => wpAny_throw (tk _ _ ?_)
        exact ⟨a, B, sI, pins, σ', H', cls, d, rfl, J, nb, upp.trans up4, .inr (.inr (by rw [hs]; exact hh4)), na, os, ag, hno rfl⟩
      first
        | exact wpAny_bind (wpAny_pure (wpAny_bind fin))
        | exact wpAny_bind fin
  · match f, hsp with
    | .next, ⟨τ, H', J', q⟩ => exact wpAny_execs_nil ⟨τ, H', J'.ofTry ok, q⟩
    | .brk, ⟨τ, H', J', q⟩ => exact ⟨τ, H', J'.ofTry ok, q⟩
    | .cont, ⟨τ, H', J', q⟩ => exact ⟨τ, H', J'.ofTry ok, q⟩
    | .ret u, ⟨v, τ, H', J', r, q⟩ => exact ⟨v, τ, H', J'.ofTry ok, r, q⟩
end
end XX

set_option maxRecDepth 100000
set_option maxHeartbeats 4000000
namespace XX
open PySem PySem.Spec PyProof.Rows L2
/-! ### set(list of ints) -/
section
variable {prog : Program} {w : World} {A : Around} {E : Value → Shared → Prop} {s : Shared}
theorem call_setIl {l : Addr} {items : Array Value} {xs : List Int} {Q : Value → Shared → Prop} (hh : A.handled = none) (hl : s.heap.IsList l items) (hi : IntsAre items.toList xs) (hn : xs.length + 1 < scanBound)
    (h : ∀ (h' : Heap) (tk m : Nat), SetR w h' s.heap.objs.size (fun z => decide (z ∈ xs)) m → m ≤ xs.length → (∀ b o, b < s.heap.objs.size → s.heap.get? b = some o → h'.get? b = some o) → Q (.ref s.heap.objs.size) { s with heap := h', toks := tk }) :
    wpAny (model prog w) A (call (.type "set") [.ref l]) Q E s := by
  obtain ⟨c, tl, mro⟩ := PySem.F.called_set.mro
  have f1 := PySem.F.called_set.made
  have f2 := PySem.F.called_set.sub
  have f3 := PySem.F.called_set.notType
  have f4 := PySem.F.called_set.canCreate
  have f5 := PySem.F.typeCall_set_1 (.ref l)
  refine wpAny_call (codeAny_of_tree (by
    show wpAny _ _ (callAny (.type "set") _) _ _ _
    refine wpAny_pure ⟨Code.quiet_builtin _ (by decide +kernel), codeAny_builtin PySem.F.entry_type_call ?_⟩
    rw [Around.under_plain (weight_type_call_type "set" [.ref l] []) rfl]
    repeat (any_goals (first | assumption | wp_step))
    refine codeAny_mono (code_set_led1 (.ref l) (E := E) (Q₁ := fun ob s₁ => ob = .ref s.heap.objs.size ∧ s₁ = { s with heap := s.heap.push { cls := .type "set", dict := none, data := .set #[] 0 (.fresh 0 0 (!w.params.followText "set-order")) } }) ⟨rfl, rfl⟩) fun r s₁ hr => ?_
    match r, hr with
    | .error e, hr => exact hr
    | .ok .next, hr => exact hr.elim
    | .ok .brk, hr => exact hr.elim
    | .ok .cont, hr => exact hr.elim
    | .ok (.ret ob), ⟨eo, es⟩ =>
      subst eo es
      have g0 : (s.heap.push { cls := .type "set", dict := none, data := .set #[] 0 (.fresh 0 0 (!w.params.followText "set-order")) }).get? s.heap.objs.size = some { cls := .type "set", dict := none, data := .set #[] 0 (.fresh 0 0 (!w.params.followText "set-order")) } := Heap.get?_push_size _ rfl
      have ty : Shared.TypeIs { s with heap := s.heap.push { cls := .type "set", dict := none, data := .set #[] 0 (.fresh 0 0 (!w.params.followText "set-order")) } } (.ref s.heap.objs.size) "set" := ⟨_, g0, rfl⟩
      have i1 := PySem.F.called_set.init.lookup
      have i2 := PySem.F.called_set.init.bind (.ref s.heap.objs.size)
      repeat (any_goals (first | assumption | wp_step))
      refine codeAny_mono (codeAny_call_builtin (R := wants (fun r s₂ => r = .none ∧ ∃ h' tk m, s₂ = { s with heap := h', toks := tk } ∧ SetR w h' s.heap.objs.size (fun z => decide (z ∈ xs)) m ∧ m ≤ xs.length ∧
          (∀ b o, b < s.heap.objs.size → s.heap.get? b = some o → h'.get? b = some o)) E) PySem.F.called_set.init.plain PySem.F.entry_set_init (check_set_init_1 ty ?_)) fun r₂ s₂ hr₂ => ?_
      · obtain ⟨⟨oc, od, odt, osl⟩, hol, hcl, nl, hdl⟩ := hl
        simp only at hcl hdl
        subst hcl hdl
        have g1 : (s.heap.push { cls := .type "set", dict := none, data := .set #[] 0 (.fresh 0 0 (!w.params.followText "set-order")) }).get? l = some { cls := .type "list", dict := od, data := .seq items nl, slots := osl } := Heap.get?_push_of_some _ hol
        have s1 := PySem.F.sub_list_set
        have s2 := PySem.F.sub_list_frozenset
        have s3 : (Value.type "list" == Value.type "dict") = false := by decide
        have t1 : (s.heap.push { cls := .type "set", dict := none, data := .set #[] 0 (.fresh 0 0 (!w.params.followText "set-order")) }).IsList l items := ⟨_, g1, rfl, nl, rfl⟩
        unfold Builtin.«set.__init__» noKeywords Builtin.Frozenset.updateFrom
        generalize hPI : pyIter = PI
        wp_walk
        subst hPI
        refine wpAny_pyIter_list t1 (wpAny_bind (wpAny_runValue ?_))
        have lS : l < s.heap.objs.size := Heap.lt_size hol
        have zp : (s.heap.push { cls := .type "set", dict := none, data := .set #[] 0 (.fresh 0 0 (!w.params.followText "set-order")) }).objs.size = s.heap.objs.size + 1 := Heap.size_push ..
        have h3 : A.in1.in1.in1.handled = none := by simp [hh]
        have nI : l ≠ (s.heap.push { cls := .type "set", dict := none, data := .set #[] 0 (.fresh 0 0 (!w.params.followText "set-order")) }).objs.size := by
          rw [zp]
          exact Nat.ne_of_lt (Nat.lt_succ_of_lt lS)
        have nf : s.heap.objs.size ∉ [(s.heap.push { cls := .type "set", dict := none, data := .set #[] 0 (.fresh 0 0 (!w.params.followText "set-order")) }).objs.size, l] := by
          rw [zp]
          simp only [List.mem_cons, List.not_mem_nil, or_false, not_or]
          exact ⟨Nat.ne_of_lt (Nat.lt_succ_self _), Nat.ne_of_gt lS⟩
        have ez : items.size = xs.length := by
          have q := IntsAre.length hi
          rw [Array.length_toList] at q
          exact q
        refine set_update_ints ((Walks.list h3 _ l nI items).toS) s.heap.objs.size nf xs ez hn (fun i v hv => ?_) (items.size - 0) 0 _ (by omega) (Nat.zero_le _) ⟨⟨_, Heap.get?_push_size _ rfl, rfl, rfl⟩, t1.push _⟩ ?_ ?_
        · have iz : i < xs.length := by
            rw [← ez]
            exact (Array.getElem?_eq_some_iff.mp hv).1
          obtain ⟨t, e⟩ := PyProof.Rows.IntsAre.int_at hi i v (by rw [Array.getElem?_toList]; exact hv)
          refine ⟨xs[i], t, List.getElem?_eq_getElem iz, ?_⟩
          rw [e, List.getD_eq_getElem?_getD, List.getElem?_eq_getElem iz] <;> rfl
        · exact ⟨0, Nat.le_refl 0, setR_new_at (Heap.get?_push_of_some _ g0)⟩
        · rintro ⟨h', g', d', tk', os'⟩ m mv hc hS
          obtain rfl : g' = s.gens := mv.gens
          obtain rfl : d' = s.drawn := mv.drawn
          obtain rfl : os' = s.os := mv.os
          show wpAny _ _ _ _ _ _
          refine wpAny_pure ?_
          show wpAny _ _ (ret Value.none) _ _ _
          rw [ez] at hc
          refine wpAny_pure ⟨rfl, h', tk', m, rfl, hS, hc, fun b o hb e => ?_⟩
          refine mv.heap b o ?_ (Heap.get?_push_of_some _ (Heap.get?_push_of_some _ e))
          rw [zp]
          simp only [List.mem_cons, List.not_mem_nil, or_false, not_or]
          exact ⟨Nat.ne_of_lt hb, Nat.ne_of_lt (Nat.lt_succ_of_lt hb)⟩
      · match r₂, hr₂ with
        | .error e, hr₂ => exact hr₂
        | .ok .next, hr₂ => exact hr₂.elim
        | .ok .brk, hr₂ => exact hr₂.elim
        | .ok .cont, hr₂ => exact hr₂.elim
        | .ok (.ret r), ⟨er, h', tk, m, es, hS, hc, hk⟩ =>
          subst er es
          repeat (any_goals (first | assumption | wp_step))
          exact h _ _ _ hS hc hk))
end
def rSetI (K : PySem.W.Frag) (w : World) : List V → Hp → VK → Prop := fun vs H Q => ∃ (l : Addr) (ns : List Int), vs = [.ref l] ∧ SqL K H l (ns.map V.int) ∧ ns.length ≤ 1000 ∧ ∀ p m, H p = none → m ≤ ns.length → Q (.ref p) (upd H p (SetO w p (fun z => decide (z ∈ ns)) m))
theorem cr_setI {X : Cx} (hc : X.calm = true) : CallR X (.type "set") (rSetI X.K X.w) := by
  intro pins s σ H vs us Q I r h
  obtain ⟨l, ns, rfl, hq, h1, q⟩ := h
  rw [Vals.ref1 r]
  obtain ⟨its, rv, pl, hz⟩ := I.list hq
  refine call_setIl (I.ok.hd hc) pl.isList (ints_of_vals rv) (by unfold scanBound; omega) fun h' tk m R hm k => ?_
  have I2 : Inv X pins σ (upd H s.heap.objs.size (SetO X.w s.heap.objs.size (fun z => decide (z ∈ ns)) m)) { s with heap := h', toks := tk } := I.laid (t' := tk) (fun b u e => k b u (Heap.lt_size e) e) (Nat.le_refl _) (setO_new R)
  exact ⟨.ref _, _, I2, rfl, q _ m (I.hok.fresh (Nat.le_refl _)) hm⟩
end XX

set_option maxRecDepth 100000
set_option maxHeartbeats 4000000
namespace XX
open PySem PySem.Spec PyProof.Rows L2
/-! ### comprehensions with two fors -/
def Lc1W (J : It) (g : TG) (tt : TT) (te : TE) (vs : List Nat) (σ : L2.St) (H1 : Hp) (D : Addr) (Nx : Hp → Prop) : Prop := ∃ W1 : Nat → Nat → Hp → Prop, (∃ m, W1 0 m H1) ∧ ∀ j k H, W1 j k H →
  (J.stop j H ∧ Nx H) ∨ (J.go j H ∧ ∃ Nx1 : Hp → Prop, (∀ H', Nx1 H' → ∃ k', k' < k ∧ W1 (j + 1) k' H') ∧ ∀ x H', J.yld j H x H' → g x (wipe σ vs) H' fun σ3 H5 => wipe σ3 vs = wipe σ vs ∧ tt σ3 H5 fun b H6 =>
    if b = true then te σ3 H6 fun y H7 => ∃ acc, H7 D = some (.lst acc) ∧ acc.length < sizeLine ∧ Nx1 (upd H7 D (.lst (acc ++ [y]))) else Nx1 H6)
def Lc2W (J : It) (g : TG) (tt : TT) (wi1 : TI) (g1 : TG) (tt1 : TT) (te : TE) (vs vs1 : List Nat) (σ : L2.St) (H1 : Hp) (Q : VK) : Prop := ∀ D, H1 D = none → ∃ W : Nat → Nat → Hp → Prop, (∃ m, W 0 m (upd H1 D (.lst []))) ∧ ∀ i m H, W i m H →
  (J.stop i H ∧ Q (.ref D) H) ∨ (J.go i H ∧ ∃ Nx : Hp → Prop, (∀ H', Nx H' → ∃ m', m' < m ∧ W (i + 1) m' H') ∧ ∀ x H', J.yld i H x H' → g x (wipe σ vs) H' fun σ2 H2 => wipe σ2 vs = wipe σ vs ∧ tt σ2 H2 fun b H3 =>
    if b = true then wi1 σ2 H3 fun J1 H4 => Lc1W J1 g1 tt1 te vs1 σ2 H4 D Nx else Nx H3)
theorem tLc2_eq {wi wi1 : TI} {g g1 : TG} {tt tt1 : TT} {te : TE} {vs vs1 : List Nat} {σ : L2.St} {H : Hp} {Q : VK} : tLc2 wi g tt wi1 g1 tt1 te vs vs1 σ H Q = wi σ H (fun J H1 => Lc2W J g tt wi1 g1 tt1 te vs vs1 σ H1 Q) := rfl
theorem lc1_it {J : It} {n : Nat} {G : Hp → Prop} {Y : Nat → Hp → V → Hp → Prop} (w : Walk J n G Y) {g : TG} {tt : TT} {te : TE} {vs : List Nat} {σ : L2.St} {H1 : Hp} {D : Addr} {Nx : Hp → Prop} (P : Nat → Hp → Prop) (h0 : P 0 H1) (hG : ∀ i H, i ≤ n → P i H → G H)
    (hs : ∀ i x H H', i < n → P i H → Y i H x H' → g x (wipe σ vs) H' fun σ2 H2 => wipe σ2 vs = wipe σ vs ∧ tt σ2 H2 fun b H3 =>
      if b = true then te σ2 H3 fun y H4 => ∃ acc, H4 D = some (.lst acc) ∧ acc.length < sizeLine ∧ P (i + 1) (upd H4 D (.lst (acc ++ [y]))) else P (i + 1) H3) (hd : ∀ H, P n H → Nx H) : Lc1W J g tt te vs σ H1 D Nx := by
  refine ⟨fun i m H => m = n - i ∧ i ≤ n ∧ P i H, ⟨n, by simp, Nat.zero_le _, h0⟩, ?_⟩
  rintro i m H ⟨rfl, hi, p⟩
  have q := hG i H hi p
  by_cases hlt : i < n
  · exact .inr ⟨w.goes i H hlt q, P (i + 1), fun H' p' => ⟨n - (i + 1), by omega, rfl, hlt, p'⟩, fun x H' y => hs i x H H' hlt p (w.yields i H x H' hlt q y)⟩
  · have e : i = n := by omega
    subst e
    exact .inl ⟨w.stops H q, hd H p⟩
theorem lc2_it {J : It} {n : Nat} {G : Hp → Prop} {Y : Nat → Hp → V → Hp → Prop} (w : Walk J n G Y) {g : TG} {tt : TT} {wi1 : TI} {g1 : TG} {tt1 : TT} {te : TE} {vs vs1 : List Nat} {σ : L2.St} {H1 : Hp} {Q : VK} (P : Addr → Nat → Hp → Prop) (h0 : ∀ D, H1 D = none → P D 0 (upd H1 D (.lst [])))
    (hG : ∀ D i H, i ≤ n → P D i H → G H)
    (hs : ∀ D i x H H', H1 D = none → i < n → P D i H → Y i H x H' → g x (wipe σ vs) H' fun σ2 H2 => wipe σ2 vs = wipe σ vs ∧ tt σ2 H2 fun b H3 =>
      if b = true then wi1 σ2 H3 fun J1 H4 => Lc1W J1 g1 tt1 te vs1 σ2 H4 D (P D (i + 1)) else P D (i + 1) H3) (hd : ∀ D H, H1 D = none → P D n H → Q (.ref D) H) : Lc2W J g tt wi1 g1 tt1 te vs vs1 σ H1 Q := by
  intro D hD
  refine ⟨fun i m H => m = n - i ∧ i ≤ n ∧ P D i H, ⟨n, by simp, Nat.zero_le _, h0 D hD⟩, ?_⟩
  rintro i m H ⟨rfl, hi, p⟩
  have q := hG D i H hi p
  by_cases hlt : i < n
  · exact .inr ⟨w.goes i H hlt q, P D (i + 1), fun H' p' => ⟨n - (i + 1), by omega, rfl, hlt, p'⟩, fun x H' y => hs D i x H H' hD hlt p (w.yields i H x H' hlt q y)⟩
  · have e : i = n := by omega
    subst e
    exact .inl ⟨w.stops H q, hd D H hD p⟩
/-! ### == of two dicts of data under the same keys -/
inductive HitsD (K : PySem.W.Frag) (H : Hp) (kb : List (Key × V)) : List (Key × V) → Bool → Prop
  | nil : HitsD K H kb [] true
  | hit {k : Key} {v y : V} {d e : PyData} {r : List (Key × V)} {b : Bool} : valV kb k = some y → Dp K H v d → Dp K H y e → SeqAt.shaped d = true → SeqAt.shaped e = true → HitsD K H kb r b → HitsD K H kb ((k, v) :: r) (PyData.eqv d e && b)
theorem hitsD_run {X : Cx} {pins : List (Addr × Obj)} {σ : L2.St} {H : Hp} {s : Shared} (I : Inv X pins σ H s) {A : Around} (hu : A.units + 64 < cLine) {kb : List (Key × V)} {vb : List (Key × Value)} (rb : KV kb vb) : ∀ {ka : List (Key × V)} {r : Bool} {va : List (Key × Value)}, HitsD X.K H kb ka r → KV ka va → PySem.W.KeqHitsP X.prog X.w A s vb va r
  | _, _, _, .nil, .nil => .nil
  | _, _, _, .hit (k := k) (d := d) (e := e) hv hd he sd se t, .cons (b := kv) ⟨e1, r1⟩ rt => by
    have rr := rb.val k
    rw [hv] at rr
    obtain ⟨u, hu2, ru⟩ := rr.some_of
    obtain ⟨as, q1⟩ := Dp.reads I d _ _ hd r1
    obtain ⟨bs, q2⟩ := Dp.reads I e _ _ he ru
    obtain ⟨key, v⟩ := kv
    have e1 : k = key := e1
    subst e1
    exact .hit hu2 (fun E Q q => SeqAt.eqBoolOverData _ _ _ _ _ _ _ _ _ _ _ _ q1 q2 (SeqAt.canLay_of_shaped sd) (SeqAt.canLay_of_shaped se) (SeqAt.room_of_shaped sd hu) q) (hitsD_run I hu rb t rt)
def rEqK (K : PySem.W.Frag) : R2 := fun x y H Q => ∃ (a b : Addr) (ka kb : List (Key × V)) (r : Bool), x = .ref a ∧ y = .ref b ∧ H a = some (.dK ka) ∧ H b = some (.dK kb) ∧ ka.length = kb.length ∧ HitsD K H kb ka r ∧ Q (.bl r) H
theorem op_eqK {X : Cx} (hu : X.A.units + 65 < cLine) : OpR X (compareOp .Eq) (rEqK X.K) := by
  intro pins s σ H x y v u Q I rx ry h
  obtain ⟨a, b, ka, kb, r, rfl, rfl, ha, hb, hl, hh, q⟩ := h
  cases (show v = Value.ref a from rx)
  cases (show u = Value.ref b from ry)
  obtain ⟨_, ya, va, ra, da⟩ := dk_of I.hok ha
  obtain ⟨_, yb, vb, rb, db⟩ := dk_of I.hok hb
  refine PySem.W.rcP_dicts (knd := mixKind X.prog X.w) (r := r) ya yb da db (by omega) (fun _ => hitsD_run I (A := X.A.in1) (by show X.A.units + 1 + 64 < cLine; omega) rb hh ra) _ _ ?_
  have e : va.length = vb.length := by rw [← ra.length, ← rb.length]; exact hl
  have e2 : (va.length == vb.length && r) = r := by rw [e, beq_self_eq_true, Bool.true_and]
  rw [e2]
  exact ⟨.bl r, H, I, rfl, q⟩
theorem pa_starK {X : Cx} {e : Expr} {es : List Expr} {te : TE} {t : TA} {p : Pos} (K : PySem.W.Frag) (h : X.K = K) (he : PE X e te) (hr : PA X es t) (hs : starEach (.Starred e p :: es) X.env = (true, eval e X.env) :: starEach es X.env := by rfl) : PA X (.Starred e p :: es) (StX.tStar K te t) := by
  subst h
  exact StX.pa_star he hr hs
end XX

set_option maxRecDepth 100000
set_option maxHeartbeats 4000000
namespace XX
open PySem PySem.Spec PyProof.Rows L2
/-! ### methods of built-ins where the frozen part is told (within try and except) -/
theorem pe_bmK {X : Cx} {o e : Expr} {es : List Expr} {to : TE} {t : TA} {name : Str} {apos cpos : Pos} {T id : String} {r : V → List V → Hp → VK → Prop} (K : PySem.W.Frag) (h : X.K = K) (pa : PlainAttrs T) (slot : Slot T name id)
    (hty : typeOf (.builtin id) = pure (.type "method_descriptor")) (hm : MtR X id r) (ho : PE X o to) (ha : PA X (e :: es) t) (b1 : attributeBase o name X.env (eval o X.env) = eval o X.env := by rfl)
    (b2 : ((backTo cpos (starEach (e :: es) X.env)).all (fun x => !x.1) && (backToKw cpos (keywordEach [] X.env)).all (fun x => x.1.isSome) && decide ((e :: es).length + ([] : List Keyword).length + (if ([] : List Keyword).isEmpty then 0 else 1) < 30)) = true := by rfl)
    (b3 : (apos.endLine == cpos.line) = true := by rfl) (b4 : starEach (e :: es) X.env = (false, eval e X.env) :: starEach es X.env := by rfl) (b5 : (backTo cpos (starEach es X.env)).any (·.1) = false := by rfl) :
    PE X (.Call (.Attribute o name apos) (e :: es) [] cpos) (tBM K T r to t) := by
  subst h
  exact pe_bm pa slot hty hm ho ha b1 b2 b3 b4 b5
end XX

set_option maxRecDepth 100000
set_option maxHeartbeats 4000000
namespace XX
open PySem PySem.Spec PyProof.Rows L2
/-! ### defs that may raise, called outside of try too -/
section
variable {P : Program} {w : World} {K : PySem.W.Frag} {mg : Str → Option Value} {base : Heap}
theorem Def.okX {x : Str} {st : Stmt} {N ps : List Str} {k : Nat} {sp : Sp} (D : Def K mg x st ps) (S : FnScope N ps (defScope st)) (len : ∀ vs H Q E, sp vs H Q E → vs.length = ps.length)
    (hbody : ∀ (f : Addr) (cdv : Value) (A : Around) (outer : List Env) (s : Shared) (H : Hp) (vs : List V) (Q : VK) (E : XK), Room k (A.deeper (envOfC x (defScope st) s.heap.objs.size f cdv)) → sp vs H Q E →
      ∃ t, PSs (cxOf (L2.CX P w) P w K mg base N x (defScope st) f cdv A outer s H E) (defBody st) t ∧ t { nx := fun _ H' => Q .non H', rt := Q } (start N vs) H) : FnC P w K mg base (L2.CX P w) (k + 1) x ps sp := by
  obtain ⟨f, fd, F, hm, hb⟩ := D.ex
  exact ⟨f, fd, F.okX S len (hbody f), hm, F.kp, hb⟩
end
section
variable {X : Cx} {CX : CXT} {k : Nat} {x : Str} {ps : List Str} {sp : Sp} {p pos : Pos} {e : Expr} {es : List Expr} {t : TA} {E : L2.St → XK}
theorem pe_cX (c : FnC X.prog X.w X.K X.mg X.base CX k x ps sp) (hr : Room k X.A) (hx : ∀ σ, PassesAt CX X σ (E σ)) (hg : Gl X x) (ha : PA X (e :: es) t) (hdb : (x == ("__debug__" : Str)) = false := by decide)
    (h1 : starEach (e :: es) X.env = (false, eval e X.env) :: starEach es X.env := by rfl) (h2 : (backTo pos (starEach es X.env)).any (·.1) = false := by rfl) : PE X (.Call (.Name x p) (e :: es) [] pos) (tCallS sp E t) := by
  obtain ⟨f, fd, F, hm, hk, hb⟩ := c.ex
  exact pe_callS F hr hg hm hk hb hx ha hdb h1 h2
end
/-! ### dict comprehensions -/
def DcW (J : It) (g : TG) (tt : TT) (tk tv : TE) (vs : List Nat) (σ : L2.St) (H1 : Hp) (Q : VK) : Prop := ∀ D, H1 D = none → ∃ W : Nat → Nat → Hp → Prop, (∃ m, W 0 m (upd H1 D (.dK []))) ∧ ∀ i m H, W i m H →
  (J.stop i H ∧ Q (.ref D) H) ∨ (J.go i H ∧ ∃ Nx : Hp → Prop, (∀ H', Nx H' → ∃ m', m' < m ∧ W (i + 1) m' H') ∧ ∀ x H', J.yld i H x H' → g x (wipe σ vs) H' fun σ2 H2 => wipe σ2 vs = wipe σ vs ∧ tt σ2 H2 fun b H3 =>
    if b = true then tk σ2 H3 fun y H4 => tv σ2 H4 fun z H5 => ∃ kvs k, y = kV k ∧ H5 D = some (.dK kvs) ∧ kvs.length < sizeLine ∧ Nx (upd H5 D (.dK (putK kvs k z))) else Nx H3)
theorem tDc_eq {wi : TI} {g : TG} {tt : TT} {tk tv : TE} {vs : List Nat} {σ : L2.St} {H : Hp} {Q : VK} : tDc wi g tt tk tv vs σ H Q = wi σ H (fun J H1 => DcW J g tt tk tv vs σ H1 Q) := rfl
theorem dcw_it {J : It} {n : Nat} {G : Hp → Prop} {Y : Nat → Hp → V → Hp → Prop} (w : Walk J n G Y) {g : TG} {tt : TT} {tk tv : TE} {vs : List Nat} {σ : L2.St} {H1 : Hp} {Q : VK} (P : Addr → Nat → Hp → Prop) (h0 : ∀ D, H1 D = none → P D 0 (upd H1 D (.dK [])))
    (hG : ∀ D i H, i ≤ n → P D i H → G H)
    (hs : ∀ D i x H H', H1 D = none → i < n → P D i H → Y i H x H' → g x (wipe σ vs) H' fun σ2 H2 => wipe σ2 vs = wipe σ vs ∧ tt σ2 H2 fun b H3 =>
      if b = true then tk σ2 H3 fun y H4 => tv σ2 H4 fun z H5 => ∃ kvs k, y = kV k ∧ H5 D = some (.dK kvs) ∧ kvs.length < sizeLine ∧ P D (i + 1) (upd H5 D (.dK (putK kvs k z))) else P D (i + 1) H3) (hd : ∀ D H, H1 D = none → P D n H → Q (.ref D) H) : DcW J g tt tk tv vs σ H1 Q := by
  intro D hD
  refine ⟨fun i m H => m = n - i ∧ i ≤ n ∧ P D i H, ⟨n, by simp, Nat.zero_le _, h0 D hD⟩, ?_⟩
  rintro i m H ⟨rfl, hi, p⟩
  have q := hG D i H hi p
  by_cases hlt : i < n
  · exact .inr ⟨w.goes i H hlt q, P D (i + 1), fun H' p' => ⟨n - (i + 1), by omega, rfl, hlt, p'⟩, fun x H' y => hs D i x H H' hD hlt p (w.yields i H x H' hlt q y)⟩
  · have e : i = n := by omega
    subst e
    exact .inl ⟨w.stops H q, hd D H hD p⟩
end XX

set_option maxRecDepth 100000
set_option maxHeartbeats 4000000
/-! raising where nothing is handled: the exception's context is None, and is told so (L2N's CX in the place of L2's) -/
namespace XX
open PySem PySem.Spec PyProof.Rows L2 L2H HotX
section
variable {P : Program} {w : World} {K : PySem.W.Frag} {mg : Str → Option Value} {base : Heap}
theorem okN {x qual : Str} {st : Stmt} {f : Addr} {fd : FuncData} {N ps : List Str} {k : Nat} {sp : Sp} (F : L2.Fun K x qual st f fd) (S : FnScope N ps (defScope st)) (len : ∀ vs H Q E, sp vs H Q E → vs.length = ps.length)
    (hbody : ∀ (cdv : Value) (A : Around) (outer : List Env) (s : Shared) (H : Hp) (vs : List V) (Q : VK) (E : XK), Room k (A.deeper (envOfC qual (defScope st) s.heap.objs.size f cdv)) → sp vs H Q E →
      ∃ t, PSs (cxOf (L2N.CX P w) P w K mg base N qual (defScope st) f cdv A outer s H E) (defBody st) t ∧ t { nx := fun _ H' => Q .non H', rt := Q } (L2.start N vs) H) : FnOk P w K mg base (L2N.CX P w) (k + 1) f fd ps sp := by
  obtain ⟨oc, od, kV, doc, pm, an, cdv, ct, osl, rfl, lk, hcd⟩ := F.ex
  exact fn_of lk hcd S len (hbody cdv)
theorem Def.okN {x : Str} {st : Stmt} {N ps : List Str} {k : Nat} {sp : Sp} (D : Def K mg x st ps) (S : FnScope N ps (defScope st)) (len : ∀ vs H Q E, sp vs H Q E → vs.length = ps.length)
    (hbody : ∀ (f : Addr) (cdv : Value) (A : Around) (outer : List Env) (s : Shared) (H : Hp) (vs : List V) (Q : VK) (E : XK), Room k (A.deeper (envOfC x (defScope st) s.heap.objs.size f cdv)) → sp vs H Q E →
      ∃ t, PSs (cxOf (L2N.CX P w) P w K mg base N x (defScope st) f cdv A outer s H E) (defBody st) t ∧ t { nx := fun _ H' => Q .non H', rt := Q } (L2.start N vs) H) : FnC P w K mg base (L2N.CX P w) (k + 1) x ps sp := by
  obtain ⟨f, fd, F, hm, hb⟩ := D.ex
  exact ⟨f, fd, XX.okN F S len (hbody f), hm, F.kp, hb⟩
theorem DefM.okN {C : Addr} {m q : Str} {st : Stmt} {N ps : List Str} {k : Nat} {sp : Sp} (D : DefM K C m q st ps) (S : FnScope N ps (defScope st)) (len : ∀ vs H Q E, sp vs H Q E → vs.length = ps.length)
    (hbody : ∀ (f : Addr) (cdv : Value) (A : Around) (outer : List Env) (s : Shared) (H : Hp) (vs : List V) (Q : VK) (E : XK), Room k (A.deeper (envOfC q (defScope st) s.heap.objs.size f cdv)) → sp vs H Q E →
      ∃ t, PSs (cxOf (L2N.CX P w) P w K mg base N q (defScope st) f cdv A outer s H E) (defBody st) t ∧ t { nx := fun _ H' => Q .non H', rt := Q } (L2.start N vs) H) : MtC P w K mg base (L2N.CX P w) (k + 1) C m ps sp := by
  obtain ⟨f, fd, F, hm, hb⟩ := D.ex
  exact ⟨f, fd, XX.okN F S len (hbody f), hm, hb⟩
/-- a promise that tells of no exception holds under any context -/
theorem okCX {CX CX' : CXT} {k : Nat} {f : Addr} {fd : FuncData} {ps : List Str} {sp : Sp} (F : FnOk P w K mg base CX k f fd ps sp) (hn : ∀ vs H Q E, sp vs H Q E → sp vs H Q fun _ _ _ => False) (hx : ∀ outer H s e s', CX outer H s (fun _ _ _ => False) e s' → False) : FnOk P w K mg base CX' k f fd ps sp := by
  refine ⟨F.len, ?_⟩
  rintro A outer s H args us vs Q E hr e0 hb r hs
  refine codeAny_mono (F.run A outer s H args us vs Q _ hr e0 hb r (hn _ _ _ _ hs)) ?_
  rintro z s' h
  match z, h with
  | .error e, h => exact (hx _ _ _ _ _ h).elim
  | .ok (.ret u), h => exact h
  | .ok .next, h => exact h.elim
  | .ok .brk, h => exact h.elim
  | .ok .cont, h => exact h.elim
theorem cxF {outer : List Env} {H : Hp} {s : Shared} {e : Value} {s' : Shared} (h : L2.CX P w outer H s (fun _ _ _ => False) e s') : False := by
  obtain ⟨_, _, _, _, _, _, _, _, _, _, _, _, z⟩ := h
  exact z
theorem cxNF {outer : List Env} {H : Hp} {s : Shared} {e : Value} {s' : Shared} (h : L2N.CX P w outer H s (fun _ _ _ => False) e s') : False := by
  obtain ⟨_, _, _, _, _, _, _, _, _, _, _, _, z⟩ := h
  exact z
theorem cxN {outer : List Env} {H : Hp} {s : Shared} {E : XK} {e : Value} {s' : Shared} (h : L2N.CX P w outer H s E e s') : L2.CX P w outer H s E e s' := by
  obtain ⟨a, B, H', cls, d, e1, fl, r⟩ := h
  exact ⟨a, B, H', cls, d, e1, flyingZ_imp (fun o z => z.zc) fl, r⟩
theorem FnOk.ofN {k : Nat} {f : Addr} {fd : FuncData} {ps : List Str} {sp : Sp} (F : FnOk P w K mg base (L2N.CX P w) k f fd ps sp) : FnOk P w K mg base (L2.CX P w) k f fd ps sp := by
  refine ⟨F.len, ?_⟩
  rintro A outer s H args us vs Q E hr e0 hb r hs
  refine codeAny_mono (F.run A outer s H args us vs Q E hr e0 hb r hs) ?_
  rintro z s' h
  match z, h with
  | .error e, h => exact cxN h
  | .ok (.ret u), h => exact h
  | .ok .next, h => exact h.elim
  | .ok .brk, h => exact h.elim
  | .ok .cont, h => exact h.elim
end
section
variable {X : Cx}
/-- C(e, ..) of an own class with an own __init__, where nothing is handled -/
theorem pmkN {CX : CXT} {x : Str} {C fI : Addr} {k : Nat} {fd : FuncData} {ps : List Str} {sp : Sp} {e : Expr} {es : List Expr} {ta : TA} {p pos : Pos} (T : OexC X.K C) (iC : PySem.W.findIn X.K (.ref C) "__init__" = some (some (.ref fI))) (tI : PySem.W.typeIn X.K (.ref fI) = some (.type "function"))
    (F1 : FnOk X.prog X.w X.K X.mg X.base CX k fI fd ps sp) (hr : Room (k + 1) X.A) (hb : Binds X.K fd ps []) (hx : Passes CX X (fun _ _ _ => False)) (hg : Gl X x) (hm : X.mg x = some (.ref C)) (ha : PA X (e :: es) ta)
    (hdb : (x == ("__debug__" : Str)) = false := by decide) (he : starEach (e :: es) X.env = (false, eval e X.env) :: starEach es X.env := by rfl) (hpl : (backTo pos (starEach es X.env)).any (·.1) = false := by rfl) : L2N.PMk X (.Call (.Name x p) (e :: es) [] pos) (tMkO C sp [] ta) := by
  intro pins s σ H Q I h
  obtain ⟨nm, q, N, bs, bm, sn, sub, ab, col, dd, k0, k1, k2, k3, k5, hC, hbm⟩ := T.cls
  refine wpAny_Call_Name_kw (ld_glob I hg hm (PySem.W.callWith_K (h₀ := X.base) I.ok.mod.kin T.kC (thn (ha.run pos pins s σ H _ I h) ?_) he hpl) hdb)
  rintro us ⟨hp, g, dr, tk, os⟩ ⟨vs, H1, I1, r1, hz, q1⟩
  refine ⟨I1.kIn, (show wpAny _ _ (call (.ref C) us) _ _ _ from ?_)⟩
  have up := Nat.le_succ hp.objs.size
  have hq := q1 (hp.objs.size + 1) (I1.hok.fresh up)
  rw [List.append_nil] at hq
  have kk : ∀ b o, hp.get? b = some o → ((hp.push (PySem.W.kdv_tup us)).push (PySem.HandSPX.excO C hp.objs.size)).get? b = some o := fun b o e => Heap.get?_push_of_some _ (Heap.get?_push_of_some _ e)
  have I2 : Inv X pins σ (upd H1 (hp.objs.size + 1) (exo (hp.objs.size + 1) C none)) ⟨(hp.push (PySem.W.kdv_tup us)).push (PySem.HandSPX.excO C hp.objs.size), g, dr, tk, os⟩ :=
    I1.laid (t' := tk) (a := hp.objs.size + 1) (o := exo (hp.objs.size + 1) C none) (h' := (hp.push (PySem.W.kdv_tup us)).push (PySem.HandSPX.excO C hp.objs.size)) kk up (exo_ok (by heap_get))
  have r2 : Vals (V.ref (hp.objs.size + 1) :: vs) (Value.ref (hp.objs.size + 1) :: us) := .cons rfl r1
  have hl : (Value.ref (hp.objs.size + 1) :: us).length = ps.length := by rw [← r2.length]; exact F1.len _ _ _ _ hq
  have b2 := hb ⟨(hp.push (PySem.W.kdv_tup us)).push (PySem.HandSPX.excO C hp.objs.size), g, dr, tk, os⟩ (Value.ref (hp.objs.size + 1) :: us) I2.kIn (by rw [List.append_nil]; exact hl)
  rw [List.append_nil] at b2
  have hus : us.length ≤ sizeLine := by rw [← Paired.length r1, sizeLine_eq]; omega
  refine wpAny_call (PySem.HandSPX.call_own F.excBase_ValueError (fun Y => PySem.HandSPX.refsVE_contains Y bm hbm) (I1.kIn _ _ hC) (PySem.W.looks_findIn I1.kIn iC) (fun self => PySem.W.bind_fn I1.kIn self tI) hus (codeAny_mono (F1.run _ X.stack _ _ _ _ _ _ (fun _ _ _ => False) (hr.make C us []) (I2.env0.make C us []) b2 r2 hq) ?_))
  rintro r ⟨h2, g2, d2, t2, os'⟩ hq'
  match r, hq' with
  | .error er, hq' => exact hx pins σ _ _ er _ I2 hq'
  | .ok (.ret u), ⟨v, H2, os2, bare2, un2, hok2, rv, ev, d, fs, ea, ed, hd1, q2⟩ =>
    subst ev
    obtain ⟨t0, G, J, kG, ge, hoe, na⟩ := mk_end0 (d2 := d2) (t2 := t2) I1 up kk un2 hok2 os2 bare2 ea ed hd1
    exact ⟨rv, hp.objs.size + 1, _, _, ⟨G, g2, d2, t2, os'⟩, _, .ref C, some d, rfl, J, kG, ge, hoe, ⟨rfl, rfl, fun vs hv => by cases hv; rfl⟩, rfl, rfl, na, rfl, bare2, raises_own T.exC T.tyC, q2⟩
  | .ok .next, hq' => exact hq'.elim
  | .ok .brk, hq' => exact hq'.elim
  | .ok .cont, hq' => exact hq'.elim
/-- raise x(e), x an error of the package -/
theorem ps_errN {k : Nat} {x : Str} {C fI : Addr} {fd : FuncData} {p pos pos2 : Pos} {e : Expr} {te : TE} {W : WX} (T : ErrC X.K X.mg x C fI) (F : FnOk X.prog X.w X.K X.mg X.base CX0 k fI fd ["self", "value"] (spErr X.K)) (hb : Binds X.K fd ["self", "value"] []) (hr : Room (k + 1) X.A) (hc : X.calm = true) (tk : L2N.Takes X W) (he : PE X e te) (hg : Gl X x)
    (hdb : (x == ("__debug__" : Str)) = false := by decide) (hs : starEach [e] X.env = [(false, eval e X.env)] := by rfl) (hs0 : starEach (e :: []) X.env = (false, eval e X.env) :: starEach [] X.env := by rfl) (hpl : (backTo pos (starEach [] X.env)).any (·.1) = false := by rfl) :
    PS X (.Raise (some (.Call (.Name x p) [e] [] pos)) none pos2) (tErr X.K C W te) := L2N.ps_raise hc tk (pmkN T.oex T.ini T.tI F hr hb pass0 hg T.g (pa_cons he pa_nil hs0) hdb hs0 hpl)
/-- repr(o), by an own __repr__, while an exception whose context is None is handled -/
theorem call_reprH {k : Nat} {f C : Addr} {fd : FuncData} {sp : Sp} (F : FnH X.prog X.w X.K X.mg X.base CX0 k f fd ["self"] sp) (hm : Meth X.K C "__repr__" f) (bi : Binds X.K fd ["self"] []) (hr : RoomH (k + 1) X.A) (hot : HotC X) : CallR X (.builtin "repr") (rReprI C sp) := by
  rintro pins s σ H xs us Q I r ⟨a, dx, fs, rfl, ha, hs⟩
  obtain ⟨u, rfl, ru⟩ := vals1 r
  cases ru
  obtain ⟨p, h1, hp⟩ := hot
  obtain ⟨mA, J, _⟩ := ins_get I.hok ha
  obtain ⟨od, J, _⟩ := J.look
  obtain ⟨m, hF⟩ := I.fr
  have pk := I.pin p (List.mem_append_left _ hp)
  have b := bi s [.ref a] I.kIn (by rfl)
  rw [List.append_nil] at b
  refine PySem.W.repr_K (by have := hr.un; have := (RoomH.in1 hr).un; omega) hF I.ok.mod.kin J hm.at_ hm.fn (wpAny_call (codeAny_mono (F.run X.A.in1 X.stack s H ⟨[.ref a], []⟩ [.ref a] [.ref a] _ (fun _ _ _ => False) p (RoomH.in1 hr) ⟨h1.1, h1.2⟩ ⟨pk.1, pk.2.1, fun z => (List.mem_cons.mp (I.stkSub p.1 z)).elim pk.2.2.1 pk.2.2.2.1, pk.2.2.2.2⟩ I.env0.in1 b (.cons rfl .nil) hs) ?_))
  rintro r s' hq
  match r, hq with
  | .error e, hq => exact hq.elim
  | .ok (.ret u), hq =>
    obtain ⟨z, H', I', rz, x, rfl, q⟩ := I.after hq
    obtain ⟨tk, rfl⟩ := rz
    exact (show EP X pins σ Q (.str x tk) s' from ⟨.str x, H', I', ⟨_, rfl⟩, q⟩)
  | .ok .next, hq => exact hq.elim
  | .ok .brk, hq => exact hq.elim
  | .ok .cont, hq => exact hq.elim
end
inductive HdsN (X : Cx) (n : Str) : List ExceptHandler → List Clause → Prop
  | nil : HdsN X n [] []
  | cons {x : Str} {c : Value} {ts : Addr → Value → Option Addr → TS} {b₀ : Stmt} {suite : List Stmt} {np pos' : Pos} {hds : List ExceptHandler} {l : List Clause} (hc : Names X x c)
      (hsu : ∀ (a : Addr) (oe : Obj) (cls : Value) (d : Option Addr) (pn : List (Addr × Obj)), L2N.Zn cls d oe → (∃ vs, oe.data = .fields vs) → HotC (X.suite a ((a, oe) :: pn)) → PSs (X.suite a ((a, oe) :: pn)) (b₀ :: suite) (ts a cls d)) (r : HdsN X n hds l) :
      HdsN X n (.ExceptHandler (some (.Name x np)) (some n) (b₀ :: suite) pos' :: hds) ((c, ts) :: l)
section
variable {X : Cx} {n : Str} {i : Nat} {body : List Stmt} {h₀ : ExceptHandler} {hds : List ExceptHandler} {l : List Clause} {pos : Pos} {tb : WX → TS} {Wout : WX}
theorem ps_try_masN (hs : X.stack = X.env :: X.outer) (hf : X.env.frame = some X.env.locals) (hN : X.N.Nodup) (hi : X.N[i]? = some n) (hln : X.env.kindOf n = some .local) (tk : L2N.Takes X Wout)
    (hb : ∀ (W : WX) (pn : List (Addr × Obj)) (xe : Value → Shared → Prop), L2N.Takes (X.tr pn xe) W → PassesOwn (model X.prog X.w) X.A X.env xe → PSs (X.tr pn xe) body (tb W))
    (hh : HdsN X n (h₀ :: hds) l) : PS X (.Try body (h₀ :: hds) [] [] pos) (fun D σ H => tb (wMA X.K i Wout D l) D σ H) := by
  refine ⟨fun pins s σ H D I h => ?_⟩
  have ok := I.ok
  have hfr : X.A.frames = some (X.env :: X.outer) := by rw [ok.frames, hs]
  have hloc : Loc X.env.scope n := .inl hln
  refine wpAny_Try_except (wpAny_mono ((hb (wMA X.K i Wout D l) (X.pn ++ pins) (fun e s₁ => wpAny (model X.prog X.w) X.A (noteFrame e X.env) (fun _ s₂ => wpAny (model X.prog X.w) X.A (setFlight e none) (fun _ s₃ =>
    wpAny (model X.prog X.w) X.A (handleBy e X.env (h₀ :: hds)) (SP X pins D) X.xe s₃) X.xe s₂) X.xe s₁) (fun u s' xx => ?_) PassesOwn.looking).run [] s σ H D (I.toTry _) h) (fun f s1 hsp => ?_) (fun e s1 he => he))
  · obtain ⟨a, B, sI, pins', σ', H', cls, d, rfl, J', nb, up, sky, na, os, ag, w⟩ := xx
    have J : Inv X pins σ' H' sI := J'.ofTry ok
    rw [hs] at sky
    refine L2N.Sky.land L2N.Zn.steady hfr hf sky fun h3 fl3 up3 => ?_
    have J3 : Inv X pins σ' H' { s' with heap := h3 } := J.landed nb fl3.1 (up.trans up3) os ag
    obtain ⟨oe3, vs3, he3, hz3, hd3⟩ := fl3.there
    have nfr : a ∉ frs (X.env :: X.outer) := fun hm => by
      obtain ⟨_, o', e', hnf⟩ := fl3.2.2.1.mem hm
      rw [he3] at e'
      cases e'
      exact hnf _ hd3
    have nL : a ≠ X.env.locals := fun z => nfr (List.mem_filterMap.mpr ⟨X.env, List.mem_cons_self, by rw [hf, z]⟩)
    have nF : a ∉ X.fs := fun hm => by
      obtain ⟨e, he, q⟩ := List.mem_filterMap.mp hm
      exact nfr (List.mem_filterMap.mpr ⟨e, List.mem_cons_of_mem _ he, q⟩)
    have S3 := J3.suite he3 hd3 na nL nF
    have go : ∀ {hds' : List ExceptHandler} {l' : List Clause}, HdsN X n hds' l' → wMA X.K i Wout D l' cls d σ' H' →
        wpAny (model X.prog X.w) X.A (handleBy (.ref a) X.env hds') (SP X pins D) X.xe { s' with heap := h3 } := by
      intro hds' l' hk
      induction hk with
      | nil =>
        intro w
        refine wpAny_handleBy_nil ?_
        obtain ⟨k1, k2, k3, oe, vs, T, oT, ts', he, hz, hd, h1, hr⟩ := id fl3
        unfold PySem.passOn
        refine wpAny_bind (wpAny_field he hd h1 ?_)
        rw [if_neg (show ¬ ((Value.ref T == Value.none) = true) from by simp)]
        have fin : wpAny (model X.prog X.w) X.A (setFlight (.ref a) X.env.frame) (fun _ s4 => wpAny (model X.prog X.w) X.A (throw (.ref a) : Sem Flow) (SP X pins D) X.xe s4) X.xe { s' with heap := h3 } := by
          rw [hf]
          refine HandSPX.setFlight_upZ fl3 fun h4 hh4 up4 => wpAny_throw (tk _ _ ?_)
          exact ⟨a, B, sI, pins, σ', H', cls, d, rfl, J, nb, (up.trans up3).trans up4, .inr (.inr (by rw [hs]; exact hh4)), na, os, ag, w⟩
        first
          | exact wpAny_bind (wpAny_pure (wpAny_bind fin))
          | exact wpAny_bind fin
      | @cons x c ts b₀ suite np pos' hds2 l2 hc hsu r ih =>
        rintro ⟨b, hb1, hyes, hno⟩
        refine wpAny_handleBy_cons (codeAny_handlers_test ?_) (by intro q; cases q)
        have LT : PySem.W.Looks (model X.prog X.w) h3 (typeOf (.ref a)) cls := fun A Q E s k q => wpAny_typeOf_ref (k _ _ he3) (by rw [hz3.1]; exact q)
        have LM := PySem.W.exm_one (M := model X.prog X.w) (J3.kIn) LT hb1
        have test : ∀ {Q : Value → Shared → Prop} {E : Value → Shared → Prop}, Q c { s' with heap := h3 } → wpAny (model X.prog X.w) (X.A.mark (some (.ref a))) (eval (.Name x np) X.env) Q E { s' with heap := h3 } := fun {Q E} q => by
          obtain ⟨hg, hdbg, hm | ⟨hm, hv, hnn⟩⟩ := hc
          · exact ld_glob (X := X.suite a ((a, oe3) :: (X.pn ++ pins))) S3 hg hm q hdbg
          · exact ld_blt (X := X.suite a ((a, oe3) :: (X.pn ++ pins))) S3 hg hm hv q hnn hdbg
        refine test (LM.here ?_)
        cases b with
        | true =>
          refine codeAny_handlers_suite_as (HandSPX.lands_againZ fl3 fun h4 fl4 up4 => ?_)
          have J4 : Inv X pins σ' H' { s' with heap := h4 } := J.landed nb fl4.1 ((up.trans up3).trans up4) os ag
          obtain ⟨oe4, vs4, he4, hz4, hd4⟩ := fl4.there
          have S4 := J4.suite he4 hd4 na nL nF
          refine store_ok (X := X.suite a ((a, oe4) :: (X.pn ++ pins))) (v := .ref a) S4 hN hi hloc rfl (fun s5 S5 => ?_) (.inr hln)
          refine wpAny_mono ((hsu a oe4 cls d (X.pn ++ pins) hz4 ⟨_, hd4⟩ ⟨(a, oe4), ⟨rfl, vs4, hd4, hz4.2.2 vs4 hd4⟩, List.mem_cons_self⟩).run [] s5 _ H' _ S5 (hyes rfl a na)) (fun f s6 hsp => ?_) (fun _ _ z => False.elim z)
          have stop : ∀ {τ : L2.St} {H6 : Hp} {Q : Shared → Prop}, Inv (X.suite a ((a, oe4) :: (X.pn ++ pins))) [] τ H6 s6 → (∀ s7, Inv X pins (τ.set i none) H6 s7 → Q s7) →
              wpAny (model X.prog X.w) X.A (do bindName X.env n .none; unbindBehindTheSuite X.env n pos') (fun _ s7 => Q s7) X.xe s6 := fun {τ H6 Q} S6 hq => gone_ok (S6.unsuite ok) hN hi hln hq
          match f, hsp with
          | .next, ⟨τ, H6, S6, q6⟩ => exact stop S6 fun s7 J7 => ⟨_, _, J7, q6⟩
          | .brk, ⟨τ, H6, S6, q6⟩ => exact stop S6 fun s7 J7 => ⟨_, _, J7, q6⟩
          | .cont, ⟨τ, H6, S6, q6⟩ => exact stop S6 fun s7 J7 => ⟨_, _, J7, q6⟩
          | .ret u, ⟨v6, τ, H6, S6, r6, q6⟩ => exact stop S6 fun s7 J7 => ⟨_, _, _, J7, r6, q6⟩
        | false =>
          show wpAny _ X.A (handleBy (.ref a) X.env hds2) _ _ _
          exact ih (hno rfl)
    exact go hh w
  · match f, hsp with
    | .next, ⟨τ, H', J', q⟩ => exact wpAny_execs_nil ⟨τ, H', J'.ofTry ok, q⟩
    | .brk, ⟨τ, H', J', q⟩ => exact ⟨τ, H', J'.ofTry ok, q⟩
    | .cont, ⟨τ, H', J', q⟩ => exact ⟨τ, H', J'.ofTry ok, q⟩
    | .ret u, ⟨v, τ, H', J', r, q⟩ => exact ⟨v, τ, H', J'.ofTry ok, r, q⟩
end
section
variable {P : Program} {w : World} {K : PySem.W.Frag} {mg : Str → Option Value} {base : Heap}
/-- a def called while an exception whose context is None is handled -/
theorem okH {CX : CXT} {x qual : Str} {st : Stmt} {f : Addr} {fd : FuncData} {N ps : List Str} {k : Nat} {sp : Sp} (F : L2.Fun K x qual st f fd) (S : FnScope N ps (defScope st)) (len : ∀ vs H Q E, sp vs H Q E → vs.length = ps.length)
    (hbody : ∀ (cdv : Value) (A : Around) (outer : List Env) (s : Shared) (H : Hp) (vs : List V) (Q : VK) (E : XK) (p : Addr × Obj), HotC (cxH CX P w K mg base N qual (defScope st) f cdv A outer s H E p) → RoomH k (A.deeper (envOfC qual (defScope st) s.heap.objs.size f cdv)) → sp vs H Q E →
      ∃ t, PSs (cxH CX P w K mg base N qual (defScope st) f cdv A outer s H E p) (defBody st) t ∧ t { nx := fun _ H' => Q .non H', rt := Q } (L2.start N vs) H) : FnH P w K mg base CX (k + 1) f fd ps sp := by
  obtain ⟨oc, od, kV, doc, pm, an, cdv, ct, osl, rfl, lk, hcd⟩ := F.ex
  exact fn_ofH lk hcd S len fun A outer s H vs Q E p hot hr hs => hbody cdv A outer s H vs Q E p ⟨p, ⟨hot.1, hot.2⟩, List.mem_singleton.mpr rfl⟩ hr hs
end
end XX

set_option maxRecDepth 100000
set_option maxHeartbeats 4000000
/-! exceptions of the package's classes as values: over ValueError, KeyError, OverflowError, RuntimeError -/
namespace PySem.HandSPX
open Builtin Builtin.ObjectAttr
/-- own classes, then the classes t -/
def refsT (t : List Value) : List Value → Bool
  | .ref _ :: r => refsT t r
  | l => l == t
theorem refsT_cases (t : List Value) : ∀ l : List Value, refsT t l = true → (∃ c r, l = .ref c :: r ∧ refsT t r = true) ∨ l = t
  | [], e => .inr (beq_iff_eq.mp e)
  | .ref c :: r, e => .inl ⟨c, r, rfl, e⟩
  | .none :: _, e => .inr (beq_iff_eq.mp e)
  | .ellipsis :: _, e => .inr (beq_iff_eq.mp e)
  | .notImplemented :: _, e => .inr (beq_iff_eq.mp e)
  | .bool _ :: _, e => .inr (beq_iff_eq.mp e)
  | .int _ _ :: _, e => .inr (beq_iff_eq.mp e)
  | .float _ _ :: _, e => .inr (beq_iff_eq.mp e)
  | .str _ _ :: _, e => .inr (beq_iff_eq.mp e)
  | .bytes _ _ :: _, e => .inr (beq_iff_eq.mp e)
  | .type _ :: _, e => .inr (beq_iff_eq.mp e)
  | .builtin _ :: _, e => .inr (beq_iff_eq.mp e)
theorem refsT_contains {t : List Value} (X : String) : ∀ l : List Value, refsT t l = true → l.contains (.type X) = t.contains (.type X) := by
  intro l
  induction l with
  | nil =>
    intro e
    rw [show ([] : List Value) = t from beq_iff_eq.mp e]
  | cons a r ih =>
    intro e
    rcases refsT_cases t (a :: r) e with ⟨c, r', q, h⟩ | q
    · obtain ⟨rfl, rfl⟩ := List.cons.inj q
      rw [List.contains_cons, ih h]; rfl
    · rw [q]
theorem refsT_pass {t : List Value} (self : Value) (hp : refuseLoop self "__setattr__" t = pure ()) : ∀ l : List Value, refsT t l = true → refuseLoop self "__setattr__" l = pure () := by
  intro l
  induction l with
  | nil =>
    intro e
    rw [show ([] : List Value) = t from beq_iff_eq.mp e]
    exact hp
  | cons a r ih =>
    intro e
    rcases refsT_cases t (a :: r) e with ⟨c, r', q, h⟩ | q
    · obtain ⟨rfl, rfl⟩ := List.cons.inj q
      rw [refuseLoop_ref]; exact ih h
    · rw [q]; exact hp
/-- what is asked of the built-in part of an exception's classes; B: the class whose __new__ it has, T: the class whose __init__ it has -/
structure TailOk (B T : String) (t : List Value) : Prop where
  hB : t.contains (.type B) = true
  hT : t.contains (.type T) = true
  hA : t.contains (.type "AttributeError") = false
  hN : t.contains (.type "NameError") = false
  ob : t.contains (.type "object") = true
  ne : t.isEmpty = false
  pass : ∀ self, refuseLoop self "__setattr__" t = pure ()
/-- the facts of a built-in __init__ of exceptions -/
structure ExIni (T initId : String) : Prop where
  init : Slot T "__init__" initId
  initEntry : entryFor table initId = some Builtin.«BaseException.__init__»
  initSplit : splitId initId = some (T, "__init__")
  initKind : builtinKind initId = some .slot
  initRow : Manifest.signature? initId = some ⟨.positional, "*", T, .self, [⟨"args", .varPos, false⟩]⟩
  noStar : (T != "*") = true
theorem ini_of {T newId initId : String} (F : ExcCallFacts T newId initId) : ExIni T initId := ⟨F.init, F.initEntry, F.initSplit, F.initKind, F.initRow, F.noStar⟩
theorem ini_KeyError : ExIni "KeyError" "KeyError.__init__" where
  init := .of (owner := "KeyError") (n := "__init__") (by rw [typeLookup_type, builtinLookup_eq_fast]; kernel_rfl) (by decide +kernel) (by decide +kernel) (by decide +kernel)
    (by first | exact .inl (by decide +kernel) | exact .inr (by decide +kernel)) (by rw [isSubtype_type]; kernel_rfl)
  initEntry := entryFor_alias (id' := "BaseException.__init__") (by rw [fastTable_eq_tree]; kernel_rfl) (by first | rfl | decide +kernel) (by decide +kernel) (by rw [fastTable_eq_tree]; kernel_rfl)
  initSplit := by kernel_rfl
  initKind := by kernel_rfl
  initRow := by kernel_rfl
  noStar := by decide +kernel
abbrev keTail : List Value := [.type "KeyError", .type "LookupError", .type "Exception", .type "BaseException", .type "object"]
abbrev oeTail : List Value := [.type "OverflowError", .type "ArithmeticError", .type "Exception", .type "BaseException", .type "object"]
abbrev reTail : List Value := [.type "RuntimeError", .type "Exception", .type "BaseException", .type "object"]
theorem tail_ve : TailOk "ValueError" "ValueError" veTail := ⟨by decide +kernel, by decide +kernel, by decide +kernel, by decide +kernel, by decide +kernel, rfl, fun self => F.store_ValueError.passes self⟩
theorem pass_ke (self : Value) : refuseLoop self "__setattr__" keTail = pure () := by kernel_rfl
theorem pass_oe (self : Value) : refuseLoop self "__setattr__" oeTail = pure () := by kernel_rfl
theorem pass_re (self : Value) : refuseLoop self "__setattr__" reTail = pure () := by kernel_rfl
theorem tail_ke : TailOk "LookupError" "KeyError" keTail := ⟨by decide +kernel, by decide +kernel, by decide +kernel, by decide +kernel, by decide +kernel, rfl, pass_ke⟩
theorem tail_oe : TailOk "OverflowError" "OverflowError" oeTail := ⟨by decide +kernel, by decide +kernel, by decide +kernel, by decide +kernel, by decide +kernel, rfl, pass_oe⟩
theorem tail_re : TailOk "RuntimeError" "RuntimeError" reTail := ⟨by decide +kernel, by decide +kernel, by decide +kernel, by decide +kernel, by decide +kernel, rfl, pass_re⟩
/-- what is asked of own classes' bases bm -/
structure BmOk (B T : String) (bm : List Value) : Prop where
  hB : ∀ c : Addr, (Value.ref c :: bm).contains (.type B) = true
  hT : ∀ c : Addr, (Value.ref c :: bm).contains (.type T) = true
  hA : ∀ c : Addr, (Value.ref c :: bm).contains (.type "AttributeError") = false
  hN : ∀ c : Addr, (Value.ref c :: bm).contains (.type "NameError") = false
  ob : ∀ c : Addr, (Value.ref c :: bm).contains (.type "object") = true
  pass : ∀ (self : Value) (c : Addr), refuseLoop self "__setattr__" (Value.ref c :: bm) = pure ()
theorem bm_of {B T : String} {t bm : List Value} (k : TailOk B T t) (h : refsT t bm = true) : BmOk B T bm := by
  have c : ∀ (X : String) (c : Addr), (Value.ref c :: bm).contains (.type X) = t.contains (.type X) := fun X c => refsT_contains X (.ref c :: bm) h
  exact ⟨fun x => (c B x).trans k.hB, fun x => (c T x).trans k.hT, fun x => (c _ x).trans k.hA, fun x => (c _ x).trans k.hN, fun x => (c _ x).trans k.ob, fun self x => refsT_pass self (k.pass self) (.ref x :: bm) h⟩
end PySem.HandSPX

set_option maxRecDepth 100000
set_option maxHeartbeats 4000000
namespace PySem.HandSPX
open Builtin Builtin.ObjectAttr
section
variable {M : Model} {A : Around} {E : Value → Shared → Prop} {h : Heap} {g : Array GenState} {d : Drawn} {t : Nat} {os : OsState}
variable {nm q : Str} {C N : Addr} {bs bm bmB : List Value} {hdct : Bool} {sn : List Str} {sub : List Value} {ab : Bool} {col : Option Bool} {dd : Option Addr} {k0 k1 k2 k3 k5 : Option Value} {B T newId initId : String} {rest : List Value} {kw : List (Str × Value)}
theorem check_newK (F : ExcBaseFacts B newId initId bmB) (hT : BmOk B T bm) {Q : Unit → Shared → Prop}
    (hC : h.get? C = some (excClassObj nm q C N bs bm hdct sn sub ab col dd k0 k1 k2 k3 k5 newId)) (hq : Q () ⟨h, g, d, t, os⟩) : wpAny M A (checkBuiltinCall newId ⟨.ref C :: rest, kw⟩) Q E ⟨h, g, d, t, os⟩ := by
  have hcont := hT.hB C
  have hstar := F.noStar
  simp only [checkBuiltinCall, F.newKind, F.newSplit, F.newRow]
  repeat (first | refine wpAny_loadPart_at hC ?_ | (refine wpAny_isSubtype_exc hC ?_; rw [hcont]) | refine wpAny_staticBase_exc hC ?_ | refine wpAny_madeBy_exc hC ?_ | simp only [bne_self_eq_false, Bool.false_eq_true, if_false] | wp_step)
  exact hq
theorem check_initX (F : ExIni T initId) (hT : BmOk B T bm) {e : Addr} {oe : Obj} {Q : Unit → Shared → Prop}
    (hC : h.get? C = some (excClassObj nm q C N bs bm hdct sn sub ab col dd k0 k1 k2 k3 k5 newId)) (he : h.get? e = some oe) (hcls : oe.cls = .ref C) (hq : Q () ⟨h, g, d, t, os⟩) :
    wpAny M A (checkBuiltinCall initId ⟨.ref e :: rest, []⟩) Q E ⟨h, g, d, t, os⟩ := by
  have hcB := hT.hT C
  have hshort := F.noStar
  simp only [checkBuiltinCall, F.initKind, F.initSplit, F.initRow]
  repeat (first | (with_reducible refine wpAny_loadPart_at he ?_; rw [hcls]) | with_reducible refine wpAny_loadPart_at hC ?_ | (with_reducible refine wpAny_isSubtype_exc hC ?_; rw [hcB]) | wp_step)
  refine wpAny_onRaise ?_
  rw [show ∀ (a b : String) (n : Nat), Bind.check ⟨.positional, "*", T, .self, [⟨"args", .varPos, false⟩]⟩ a b n (List.map (fun x => x.fst) ({ pos := Value.ref e :: rest } : Args).kw) = pure () from
    fun a b n => check_star_args _ _ _ _ _ _]
  exact wpAny_pure hq
end
section
variable {prog : Program} {w : World} {A : Around} {E : Value → Shared → Prop} {R : Result → Shared → Prop} {h : Heap} {g : Array GenState} {d : Drawn} {t : Nat} {os : OsState}
variable {nm q : Str} {C N : Addr} {bs bm bmB : List Value} {hdct : Bool} {sn : List Str} {sub : List Value} {ab : Bool} {col : Option Bool} {dd : Option Addr} {k0 k1 k2 k3 k5 : Option Value} {B T newId initId : String} {rest : List Value} {kw : List (Str × Value)}
theorem newK (F : ExcBaseFacts B newId initId bmB) (hT : BmOk B T bm)
    (hC : h.get? C = some (excClassObj nm q C N bs bm hdct sn sub ab col dd k0 k1 k2 k3 k5 newId))
    (hq : R (.ok (.ret (.ref (h.objs.size + 1)))) ⟨(h.push { cls := .type "tuple", data := .seq rest.toArray }).push
      { cls := .ref C, data := .fields #[.ref h.objs.size, .none, .none, .none, .bool false, .none] }, g, d, t, os⟩) (hrest : rest.length ≤ sizeLine) :
    codeAny (model prog w) A (.builtin newId ⟨.ref C :: rest, kw⟩) R ⟨h, g, d, t, os⟩ := by
  have hends := F.ends
  have hcB := hT.hB C
  have hcA := hT.hA C
  have hcN := hT.hN C
  refine codeAny_builtinAt F.entry ?_
  unfold Builtin.«BaseException.__new__»
  refine wpAt_bind ?_
  show wpAt _ _ _ (stack >>= _) _ _ _
  refine wpAt_bind (wpAt_stack fun p below => wpAt_of_wpAny ?_)
  wp_walk
  refine wpAt_of_wpAny ?_
  rw [F.owner]
  repeat (first | with_reducible refine wpAny_madeHere_exc F.canon hC ?_ | with_reducible refine wpAny_loadPart_at hC ?_ | (with_reducible refine wpAny_isSubtype_exc hC ?_; first | rw [hcB] | rw [hcA] | rw [hcN]) | wp_step)
  show R _ _
  rw [Heap.size_push]
  exact hq
theorem type_callK (F : ExcBaseFacts B newId initId bmB) (hT : BmOk B T bm) {fI : Addr} {Q : Fin → Shared → Prop}
    (hC : h.get? C = some (excClassObj nm q C N bs bm hdct sn sub ab col dd k0 k1 k2 k3 k5 newId))
    (hi : W.Looks (model prog w) h (typeLookup (.ref C) "__init__") (some (.ref fI))) (hb : ∀ self, W.Looks (model prog w) h (bindSpecial (.ref fI) self) (.ref fI, [self])) (hrest : rest.length ≤ sizeLine)
    (hq : codeAny (model prog w) A (.call (.ref fI) ⟨.ref (h.objs.size + 1) :: rest, kw⟩)
      (fun r s' => match r with | .ok (.ret v) => v = .none ∧ Q (.done (.ret (.ref (h.objs.size + 1)))) s' | .ok _ => False | .error e => E e s')
      ⟨(h.push (W.kdv_tup rest)).push (excO C h.objs.size), g, d, t, os⟩) :
    wpAny (model prog w) A (Builtin.«type.__call__» ⟨.ref C :: rest, kw⟩) Q E ⟨h, g, d, t, os⟩ := by
  repeat (first | with_reducible refine wpAny_loadPart_at hC ?_ | with_reducible refine wpAny_madeBy_exc hC ?_ | wp_step)
  refine codeAny_call_builtin_code (Code.quiet_builtin _ F.quiet) (check_newK F hT hC ?_)
  refine newK F hT hC ?_ hrest
  show wpAny _ _ _ _ _ _
  have k : ∀ b o, h.get? b = some o → ((h.push (W.kdv_tup rest)).push (excO C h.objs.size)).get? b = some o := fun b o e => Heap.get?_push_of_some _ (Heap.get?_push_of_some _ e)
  have hC₁ := k _ _ hC
  have hget : ((h.push (W.kdv_tup rest)).push (excO C h.objs.size)).get? (h.objs.size + 1) = some (excO C h.objs.size) := by heap_get
  have hcC : (Value.ref C :: bm).contains (.ref C) = true := by simp
  have i1 := hi.keeps k
  have b1 := (hb (.ref (h.objs.size + 1))).keeps k
  unfold isInstance
  repeat (first | with_reducible refine wpAny_loadPart_at hget ?_ | (with_reducible refine wpAny_isSubtype_exc hC₁ ?_; rw [hcC]) | wp_step)
  show wpAny _ _ (typeLookup (.ref C) _) _ _ _
  refine i1.at ?_
  refine wpAny_holding (wpAny_bind (b1.at ?_))
  refine wpAny_bind (wpAny_call (codeAny_mono hq fun r s' z => ?_))
  rcases r with e | (v | _ | _ | _) <;> first | exact z | exact z.elim | skip
  obtain ⟨rfl, z⟩ := z
  first
    | exact wpAny_pure (wpAny_pure z)
    | (wp_walk; exact z)
theorem check_typeK {M : Model} {A : Around} {E : Value → Shared → Prop} {Q : Unit → Shared → Prop} (hC : h.get? C = some (excClassObj nm q C N bs bm hdct sn sub ab col dd k0 k1 k2 k3 k5 newId))
    (hq : Q () ⟨h, g, d, t, os⟩) : wpAny M A (checkBuiltinCall "type.__call__" ⟨.ref C :: rest, kw⟩) Q E ⟨h, g, d, t, os⟩ := by
  refine W.check_slot tc_kind tc_split ?_ (W.tc_args _ _ _) hq
  exact (show W.Looks M h (isInstance (.ref C) (.type "type")) true from by
    intro A' Q' E' s' k z
    unfold isInstance
    have f3 := tc_sub
    obtain ⟨h', g', d', t', os'⟩ := s'
    have hC' := k _ _ hC
    have hT : (⟨h', g', d', t', os'⟩ : Shared).TypeIs (.ref C) "type" := ⟨_, hC', rfl⟩
    repeat (any_goals (first | assumption | with_reducible refine wpAny_loadPart_at hC' ?_ | wp_step)))
/-- C(.., k = v, ..), an exception's class with its own __init__ at fI -/
theorem call_ownK (F : ExcBaseFacts B newId initId bmB) (hT : BmOk B T bm) {fI : Addr}
    (hC : h.get? C = some (excClassObj nm q C N bs bm hdct sn sub ab col dd k0 k1 k2 k3 k5 newId))
    (hi : W.Looks (model prog w) h (typeLookup (.ref C) "__init__") (some (.ref fI))) (hb : ∀ self, W.Looks (model prog w) h (bindSpecial (.ref fI) self) (.ref fI, [self])) (hrest : rest.length ≤ sizeLine)
    (hq : codeAny (model prog w) (A.under (.builtin "type.__call__" ⟨.ref C :: rest, kw⟩)) (.call (.ref fI) ⟨.ref (h.objs.size + 1) :: rest, kw⟩) (W.InitBack (h.objs.size + 1) R)
      ⟨(h.push (W.kdv_tup rest)).push (excO C h.objs.size), g, d, t, os⟩) :
    codeAny (model prog w) A (.call (.ref C) ⟨rest, kw⟩) R ⟨h, g, d, t, os⟩ := by
  have f1 := tc_lookup
  have f2 := tc_bind (.ref C)
  have hTy : (⟨h, g, d, t, os⟩ : Shared).TypeIs (.ref C) "type" := ⟨_, hC, rfl⟩
  refine codeAny_of_tree ?_
  show wpAny _ _ (callAny (.ref C) _) _ _ _
  repeat (any_goals (first | assumption | with_reducible refine wpAny_loadPart_at hC ?_ | wp_step))
  refine ⟨rfl, ?_⟩
  refine codeAny_call_builtin_at (Code.quiet_builtin _ (by decide +kernel)) entry_typeCall (check_typeK hC (type_callK F hT hC hi hb hrest ?_))
  refine codeAny_mono hq fun r s' z => ?_
  rcases r with e | (v | _ | _ | _) <;> exact z
theorem init_baseX (F : ExIni T initId) (hT : BmOk B T bm) {e t0 : Addr}
    (hC : h.get? C = some (excClassObj nm q C N bs bm hdct sn sub ab col dd k0 k1 k2 k3 k5 newId)) (he : h.get? e = some (excO C t0)) (hrest : rest.length ≤ sizeLine)
    (hq : ∀ h' t1, (∀ b o, b ≠ e → h.get? b = some o → h'.get? b = some o) → h'.get? e = some (excO C t1) → R (.ok (.ret .none)) ⟨h', g, d, t, os⟩) :
    codeAny (model prog w) A (.call (.builtin initId) ⟨.ref e :: rest, []⟩) R ⟨h, g, d, t, os⟩ := by
  refine codeAny_call_builtin F.init.plain F.initEntry (check_initX F hT hC he rfl ?_)
  wp_walk
  refine hq _ h.objs.size (fun b o hb ho => ?_) ?_
  · rw [Heap.get?_update_other _ _ (Ne.symm hb)]
    exact Heap.get?_push_of_some _ ho
  · rw [Heap.get?_update_self _ (Heap.get?_push_of_some _ he) rfl]
    rfl
theorem exc_osaX {K : W.Frag} {name : Str} {tk : Tok} {v : Value} {x C : Addr} {fv : Array Value} {cd : ClassData} {hp : Heap}
    (X : K.In hp) (hx : hp.get? x = some { cls := .ref C, data := .fields fv }) (hcd : W.clsIn K C = some cd) (hmro : cd.mro = .ref C :: bm) (hm : BmOk B T bm) (hh : cd.hasDict = true) (ha : W.findIn K (.ref C) name = some none)
    (hq : ∀ h' tk' dx, (∀ b o, b ≠ x → hp.get? b = some o → h'.get? b = some o) → hp.objs.size ≤ dx → dx ≠ x → h'.get? x = some { cls := .ref C, dict := some dx, data := .fields fv } →
      h'.Ns1 dx (fun y => if y = name then some v else none) → R (.ok (.ret .none)) ⟨h', g, d, tk', os⟩) :
    codeAny (model prog w) A (.call (.builtin "object.__setattr__") ⟨[.ref x, .str name tk, v], []⟩) R ⟨hp, g, d, t, os⟩ := by
  have I : W.InstAt hp x { cls := .ref C, data := .fields fv } C none := ⟨hx, rfl, rfl, trivial⟩
  have SF := F.store_object
  have ne : cd.mro.isEmpty = false := by rw [hmro]; rfl
  have hob : cd.mro.contains (.type "object") = true := by rw [hmro]; exact hm.ob C
  have hxs : x ≠ hp.objs.size := Nat.ne_of_lt (Heap.lt_size hx)
  have sub : W.Looks (model prog w) hp (isInstance (.ref x) (.type "object")) true := I.type.andThen (W.looks_mroIn X (by unfold W.mroIn; rw [hcd, Option.bind_some, if_neg (by rw [ne]; decide), hob]))
  refine codeAny_call_builtin SF.slot.plain SF.entry (@W.check_slot (model prog w) _ _ ⟨hp, g, d, t, os⟩ "object.__setattr__" "object" "__setattr__" (.ref x) [.str name tk, v] [] _ SF.kind SF.split sub (SF.args (.ref x) (.str name tk) v) ?_)
  have hmr : W.Looks (model prog w) hp (mroOf (.ref C)) cd.mro := (W.looks_clsIn X hcd).andThen .now
  have L3 : W.Looks (model prog w) hp (storeTaker? none) none := .now
  have hcls : W.Looks (model prog w) hp (classData C) cd := W.looks_clsIn X hcd
  rw [W.osa_eq, refuse_eq]
  refine wpAny_bind (wpAny_bind (I.type.at (wpAny_bind (hmr.at ?_))))
  rw [hmro, hm.pass _ C]
  refine wpAny_pure (wpAny_bind (I.type.at (wpAny_bind ((W.looks_findIn X ha).at (wpAny_bind (L3.at ?_))))))
  show wpAny _ _ (storeInOwnDict (.ref x) (.ref C) (.str name tk) name v false) _ _ _
  obtain ⟨nm, bs, mro, ns, qn, hd, sn, sb, ab, col, del⟩ := cd
  dsimp only at hh
  subst hh
  unfold storeInOwnDict ownDictForStores
  repeat (first | with_reducible refine store_in_new ?_ ?_ | with_reducible refine wpAny_loadPart_at hx ?_ | with_reducible refine hcls.at ?_ | wp_step)
  · exact ⟨_, #[], _, (Heap.get?_update_ne _ _ _ _ hxs.symm).trans (Heap.get?_push_at rfl rfl), rfl, fun e he => absurd he (by simp), fun _ => rfl⟩
  · intro h' tk' hn' hs
    have hx₁ : (hp.push { cls := .type "dict", data := .dict #[] }).get? x = some { cls := .ref C, data := .fields fv } := Heap.get?_push_of_some _ hx
    refine hq h' tk' hp.objs.size (fun b o hb ho => ?_) (Nat.le_refl _) hxs.symm ?_ hn'
    · exact (hs.2 b (Nat.ne_of_lt (Heap.lt_size ho))).trans ((Heap.get?_update_ne _ _ _ _ hb).trans (Heap.get?_push_of_some _ ho))
    · exact (hs.2 x hxs).trans (Heap.get?_update_self _ hx₁ rfl)
end
end PySem.HandSPX

set_option maxRecDepth 100000
set_option maxHeartbeats 4000000
/-! all arguments by position, for pe_makeS -/
namespace XX
open PySem PySem.Spec PyProof.Rows L2
theorem kbn_pos {K : PySem.W.Frag} {fd : FuncData} {ps : List Str} (hb : Binds K fd ps []) : KBn K fd ps ps.length [] (fun us _ => us) (fun vs _ => vs) := by
  refine ⟨fun s us ws hk hu hw => ?_, fun r _ => r⟩
  have e : ws = [] := List.eq_nil_of_length_eq_zero hw
  subst e
  have q := hb s us hk (by rw [List.append_nil]; exact hu)
  rw [List.append_nil] at q
  exact q
end XX

set_option maxRecDepth 100000
set_option maxHeartbeats 4000000
namespace XX
open PySem PySem.Spec PyProof.Rows L2
open PySem.HandSPX (BmOk ExIni)
/-- an own exception class at C: made by B's __new__, T its built-in class that __init__ names -/
structure XCls (K : PySem.W.Frag) (B T newId : String) (C : Addr) : Prop where
  cls : ∃ nm q N bs bm sn sub ab col dd k0 k1 k2 k3 k5, K.lookup C = some (excClassObj nm q C N bs bm true sn sub ab col dd k0 k1 k2 k3 k5 newId) ∧ BmOk B T bm
  fac : ∃ initId bmB, ExcBaseFacts B newId initId bmB
  sa : PySem.W.findIn K (.ref C) "__setattr__" = some (some (.builtin "object.__setattr__"))
  kC : PySem.W.keepIn K (.ref C) = true
  ga : PySem.W.findIn K (.ref C) "__getattribute__" = some (some (.builtin "BaseException.__getattribute__"))
  gg : PySem.W.findIn K (.ref C) "__getattr__" = some none
  exC : PySem.W.subIn K (.ref C) (.type "BaseException") = some true
  hdC : PySem.W.hasDictIn K C = true
  ha : PySem.W.findIn K (.ref C) "__class__" = some (some (.builtin "object.__class__"))
  hn : PySem.W.specialIn K (.builtin "object.__class__") "__get__" = some (some (.builtin "getset_descriptor.__get__"))
  htk : PySem.W.takesIn K (.builtin "object.__class__") = some true
  hm : PySem.W.mroIn K C (.type "object") = some true
/-- an exception's object and its dict are an instance, as the library's rules ask -/
theorem inst_exo {h : Heap} {a C t1 : Addr} {d : Option Addr} {od : Option Obj} (ho : h.get? a = some ({ cls := .ref C, dict := d, data := .fields #[.ref t1, .none, .none, .none, .bool false, .none] } : Obj))
    (hd : match d, od with | none, none => True | some dx, some o => h.get? dx = some o | _, _ => False) : ∃ ox, PySem.W.InstAt h a ox C od := by
  cases d with
  | none =>
    cases od with
    | none => exact ⟨_, ho, rfl, rfl, True.intro⟩
    | some o => exact hd.elim
  | some dx =>
    cases od with
    | none => exact hd.elim
    | some o => exact ⟨_, ho, rfl, rfl, hd⟩
section
variable {X : Cx} {pins : List (Addr × Obj)} {σ : L2.St} {H : Hp} {s : Shared} {a C dx : Addr} {f : Str} {y : V} {u : Value} {fs : List (Str × V)} {E : Value → Shared → Prop} {A : Around} {B T newId : String}
theorem XCls.clsIn {K : PySem.W.Frag} (T1 : XCls K B T newId C) : ∃ cd bm, PySem.W.clsIn K C = some cd ∧ cd.mro = .ref C :: bm ∧ BmOk B T bm ∧ cd.hasDict = true := by
  obtain ⟨nm, q, N, bs, bm, sn, sub, ab, col, dd, k0, k1, k2, k3, k5, hC, hbm⟩ := T1.cls
  exact ⟨{ name := nm, bases := bs, mro := .ref C :: bm, ns := N, qualname := q, hasDict := true, slotNames := sn, subclasses := sub, abstract := ab, collection := col, hasDel := false }, bm, by unfold PySem.W.clsIn; rw [hC] <;> rfl, rfl, hbm, rfl⟩
/-- self.f = y, the first one -/
theorem ostX_new {Q : Unit → Shared → Prop} (T1 : XCls X.K B T newId C) (I : Inv X pins σ H s) (e : H a = some (exo a C none)) (hno : PySem.W.findIn X.K (.ref C) f = some none) (ry : RelV y u)
    (h : ∀ dx s', H dx = none → dx ≠ a → Inv X pins σ (upd (upd H dx (exd dx [(f, y)])) a (exo a C (some dx))) s' → Q () s') : wpAny (model X.prog X.w) A (setAttr (.ref a) f u) Q E s := by
  obtain ⟨cd, bm, hcl, hmro, hbm, hhd⟩ := T1.clsIn
  obtain ⟨t1, ho⟩ := exo_at I.hok e
  obtain ⟨hp, g, d, t, os⟩ := s
  refine PySem.W.set_plain I.kIn (ox := { cls := .ref C, dict := none, data := .fields #[.ref t1, .none, .none, .none, .bool false, .none] }) (od := none) ⟨ho, rfl, rfl, trivial⟩ T1.sa ?_
  refine PySem.HandSPX.exc_osaX I.kIn ho hcl hmro hbm hhd hno (fun h' tk' dx k dn dne hx hn => ?_)
  have hnd : H dx = none := I.hok.fresh dn
  have nd : ∀ {b : Addr} {o : Obj}, hp.get? b = some o → b ≠ dx := fun {b o} q => Nat.ne_of_lt (Nat.lt_of_lt_of_le (Heap.lt_size q) dn)
  have na : ∀ {b : Addr}, H b = none → b ≠ a := fun {b} n z => by
    rw [z, e] at n
    cases n
  have Un1 : Un X.fs [] H (upd (upd H dx (exd dx [(f, y)])) a (exo a C (some dx))) hp h' := {
    keep := fun b o q n _ _ => k b o (na n) q
    slot := fun b o q n _ _ => ⟨o.slots, k b o (na n) q⟩
    free := fun b o q n _ => by rw [upd_ne (na n), upd_ne (nd q)]; exact n
    there := fun b o q _ => by
      by_cases hb : b = a
      · exact ⟨_, by rw [hb]; exact hx⟩
      · exact ⟨o, k b o hb q⟩
    tups := fun b xs q => by rw [upd_ne (at_ne e q exo_tup), upd_ne (ne_of_none q hnd)]; exact q
    frzs := fun b o v q => by rw [upd_ne (at_ne e q exo_frz), upd_ne (ne_of_none q hnd)]; exact q
    tbls := fun b ps q => ⟨#[], by rw [upd_ne (at_ne e q exo_tbl), upd_ne (ne_of_none q hnd), q]; simp⟩ }
  refine h dx _ hnd dne (I.un (t' := tk') Un1 fun b o q => ?_)
  by_cases hb : b = a
  · subst hb
    rw [upd_same] at q
    cases q
    exact exo_ok hx
  · rw [upd_ne hb] at q
    by_cases hd : b = dx
    · subst hd
      rw [upd_same] at q
      cases q
      exact exd_ok hn (relO_put (fs := []) ry fun g => True.intro)
    · rw [upd_ne hd] at q
      exact (I.hok b o q).stay (fun c v hc z => k c v (by
          rcases hc with hc | hc
          · rw [hc]
            exact hb
          · exact at_ne e hc exo_own) z)
        (fun c hc => by rw [upd_ne (at_ne e hc exo_own), upd_ne (ne_of_none hc hnd)]; exact hc) (fun c xs hc => by rw [upd_ne (at_ne e hc exo_tup), upd_ne (ne_of_none hc hnd)]; exact hc)
/-- T.__init__(self, ..): nothing of it is told -/
theorem oinitX_ok {us : List Value} {initId : String} {Q : Value → Shared → Prop} (F : ExIni T initId) (T1 : XCls X.K B T newId C) (I : Inv X pins σ H s) (e : H a = some (exo a C none)) (hl : us.length ≤ sizeLine) (h : ∀ s', Inv X pins σ H s' → Q .none s') :
    wpAny (model X.prog X.w) A (call (.builtin initId) (.ref a :: us)) Q E s := by
  obtain ⟨nm, q, N, bs, bm, sn, sub, ab, col, dd, k0, k1, k2, k3, k5, hC, hbm⟩ := T1.cls
  obtain ⟨t1, ho⟩ := exo_at I.hok e
  obtain ⟨hp, g, d, t, os⟩ := s
  refine wpAny_call (PySem.HandSPX.init_baseX F hbm (I.kIn _ _ hC) ho hl fun h' t2 k hx => ?_)
  have J := I.write (t' := t) (x := a) (e := a) (o := exo a C none) (by rw [e]; exact True.intro) (.inl rfl) k ⟨_, hx⟩ (exo_ok hx)
  have eu : upd H a (exo a C none) = H := by
    funext b
    by_cases hb : b = a
    · rw [hb, upd_same, e]
    · rw [upd_ne hb]
  rw [eu] at J
  exact h _ J
end
/-! ### readings and rules -/
/-- T.__init__(self, ..) -/
def tXi (K : PySem.W.Frag) (T : String) (ta : TA) : TE := fun σ H Q => ta σ H fun vs H1 => ∃ (a C : Addr) (ws : List V) (B newId : String), vs = .ref a :: ws ∧ ws.length ≤ 1000 ∧ XCls K B T newId C ∧ H1 a = some (exo a C none) ∧ Q .non H1
/-- self.f = e, the first field -/
def tOstX (K : PySem.W.Frag) (f : Str) (to te : TE) : TS := fun D σ H => te σ H fun y H1 => to σ H1 fun x H2 => ∃ (a C : Addr) (B T newId : String), x = .ref a ∧ XCls K B T newId C ∧ PySem.W.findIn K (.ref C) f = some none ∧
  H2 a = some (exo a C none) ∧ ∀ dx, H2 dx = none → dx ≠ a → D.nx σ (upd (upd H2 dx (exd dx [(f, y)])) a (exo a C (some dx)))
/-- C(e, .., k = v, ..), an exception: its own __init__ keeps sp -/
def tMakeX (C : Addr) (n m : Nat) (sp : Sp) (gV : List V → List V → List V) (t tk : TA) : TE := fun σ H Q => t σ H fun vs H1 => tk σ H1 fun zs H2 => vs.length = n ∧ zs.length = m ∧ vs.length ≤ 1000 ∧ ∀ a, H2 a = none →
  sp (gV (.ref a :: vs) zs) (upd H2 a (exo a C none)) (fun v H3 => v = .non ∧ Q (.ref a) H3) (fun _ _ _ => False)
/-- o.f, an exception's field -/
def tFldX (K : PySem.W.Frag) (f : Str) (te : TE) : TE := fun σ H Q => te σ H fun x H1 => ∃ (a C dx : Addr) (B T newId : String) (fs : List (Str × V)) (v : V), x = .ref a ∧ XCls K B T newId C ∧ PySem.W.findIn K (.ref C) f = some none ∧ H1 a = some (exo a C (some dx)) ∧ H1 dx = some (exd dx fs) ∧ fs.lookup f = some v ∧ Q v H1
/-- isinstance(o, c), o an exception -/
def rIsiX (K : PySem.W.Frag) : List V → Hp → VK → Prop := fun xs H Q => ∃ (a C : Addr) (d : Option Addr) (B T newId : String) (c : V) (u : Value) (b : Bool), xs = [.ref a, c] ∧ ClsV c u ∧ XCls K B T newId C ∧ H a = some (exo a C d) ∧ (∀ dx, d = some dx → ∃ fs, H dx = some (exd dx fs)) ∧ PySem.W.kitOne K (.ref C) u = some b ∧ Q (.bl b) H
section
variable {X : Cx} {o e : Expr} {es : List Expr} {kws : List Keyword} {to te : TE} {ta t tk : TA} {f : Str} {p p' p1 p2 pos : Pos}
theorem pe_xinit {pl : Sem Bool} {T initId : String} (F : ExIni T initId) (hg : Gl X (T : Str)) (hm : X.mg (T : Str) = none) (hv : bootBuiltins (T : Str) = some (.type T)) (ty : typeOf (.type T) = pure (.type "type")) (hs : Manifest.isStub T = false)
    (vV : PySem.W.findCls X.K (.type T) (.type "type") "__init__" = some (.val (.builtin initId))) (hb : PySem.W.handedIn (.builtin initId) = true) (hn : (T : Str) ≠ "__name__") (hd : ((T : Str) == ("__debug__" : Str)) = false) (ha : PA X (e :: es) ta)
    (hc : eval (.Call (.Attribute (.Name (T : Str) p1) "__init__" p2) (e :: es) [] pos) X.env = (do
      let ov ← eval (.Name (T : Str) p1) X.env
      standAt p2.atName
      let (f, first) ← holding [ov] (getMethod ov "__init__" pl)
      callWith pos f first (backTo pos (starEach (e :: es) X.env)) (backToKw pos (keywordEach [] X.env))) := by rfl)
    (he : starEach (e :: es) X.env = (false, eval e X.env) :: starEach es X.env := by rfl) (hpl : (backTo pos (starEach es X.env)).any (·.1) = false := by rfl) :
    PE X (.Call (.Attribute (.Name (T : Str) p1) "__init__" p2) (e :: es) [] pos) (tXi X.K T ta) := by
  refine ⟨fun pins s σ H Q I h => ?_⟩
  refine PySem.W.methodCall_KW (ld_blt I hg hm hv ?_ hn hd) hc
  obtain ⟨m, fr⟩ := I.fr
  refine PySem.W.method_type fr I.ok.mod.kin ty hs vV hb ?_
  show wpAny _ _ (callWith pos (Value.builtin initId) [] (backTo pos (starEach (e :: es) X.env)) []) _ _ _
  refine PyProof.Rows.callWith_method1 (thn (ha.run pos pins _ σ H _ (I.tok _) h) fun us s1 ⟨vs, H1, I1, r1, a, C, ws, B, newId, ev, hl, T1, ea, q⟩ => ?_) he hpl
  subst ev
  cases r1 with
  | @cons _ u0 _ ur ra rw' =>
    obtain rfl : u0 = Value.ref a := ra
    have hlen : ur.length ≤ sizeLine := by
      rw [← Paired.length rw', sizeLine_eq]
      omega
    exact oinitX_ok F T1 I1 ea hlen fun s' J => ⟨.non, H1, J, rfl, q⟩
theorem ps_ostX (ho : PE X o to) (he : PE X e te) (hs : swapsWith e (some (.Attribute o f p')) pos.line X.env = pure false := by rfl) : PS X (.Assign [.Attribute o f p'] e pos) (tOstX X.K f to te) := by
  refine ⟨fun pins s σ H D I h => ?_⟩
  refine plainObj_wpAny_Assign_Attribute (thn (he.run pins s σ H _ I h) fun v s1 ⟨y, H1, I1, r1, q1⟩ => thn (ho.run pins s1 σ H1 _ I1 q1) fun u s2 ⟨x, H2, I2, r2, a, C, B, T, newId, ex, T1, hno, ea, q⟩ => ?_) hs
  subst ex
  obtain rfl : u = Value.ref a := r2
  exact ostX_new T1 I2 ea hno r1 fun dx s' n ne J => ⟨σ, _, J, q dx n ne⟩
theorem run_makeX {CX : CXT} {C fI : Addr} {k n : Nat} {fd : FuncData} {ps ks : List Str} {sp : Sp} {g : List Value → List Value → List Value} {gV : List V → List V → List V} {B T newId : String} {pins : List (Addr × Obj)} {σ : L2.St} {H : Hp} {s : Shared} {Q : VK} {us ws : List Value} {vs zs : List V}
    (T1 : XCls X.K B T newId C) (iC : PySem.W.findIn X.K (.ref C) "__init__" = some (some (.ref fI))) (tI : PySem.W.typeIn X.K (.ref fI) = some (.type "function"))
    (F1 : FnOk X.prog X.w X.K X.mg X.base CX k fI fd ps sp) (hr : Room (k + 1) X.A) (hb : KBn X.K fd ps (n + 1) ks g gV) (hx : Passes CX X (fun _ _ _ => False))
    (I : Inv X pins σ H s) (r : Vals vs us) (rz : Vals zs ws) (l1 : vs.length = n) (l2 : zs.length = ks.length) (hl : vs.length ≤ 1000)
    (h : ∀ a, H a = none → sp (gV (.ref a :: vs) zs) (upd H a (exo a C none)) (fun v H3 => v = .non ∧ Q (.ref a) H3) (fun _ _ _ => False)) :
    wpAny (model X.prog X.w) X.A (call (.ref C) us (ks.zip ws)) (EP X pins σ Q) X.xe s := by
  obtain ⟨nm, q, N, bs, bm, sn, sub, ab, col, dd, k0, k1, k2, k3, k5, hC, hbm⟩ := T1.cls
  obtain ⟨initId, bmB, FB⟩ := T1.fac
  obtain ⟨hp, gg, dr, tk, os⟩ := s
  have hsz : hp.objs.size ≤ hp.objs.size + 1 := Nat.le_succ _
  have hn : H (hp.objs.size + 1) = none := I.hok.fresh hsz
  have hq := h (hp.objs.size + 1) hn
  have kk : ∀ b o, hp.get? b = some o → ((hp.push (PySem.W.kdv_tup us)).push (PySem.HandSPX.excO C hp.objs.size)).get? b = some o := fun b o e => Heap.get?_push_of_some _ (Heap.get?_push_of_some _ e)
  have hget : ((hp.push (PySem.W.kdv_tup us)).push (PySem.HandSPX.excO C hp.objs.size)).get? (hp.objs.size + 1) = some (PySem.HandSPX.excO C hp.objs.size) := by heap_get
  have I2 : Inv X pins σ (upd H (hp.objs.size + 1) (exo (hp.objs.size + 1) C none)) ⟨(hp.push (PySem.W.kdv_tup us)).push (PySem.HandSPX.excO C hp.objs.size), gg, dr, tk, os⟩ :=
    I.laid (t' := tk) (a := hp.objs.size + 1) (o := exo (hp.objs.size + 1) C none) (h' := (hp.push (PySem.W.kdv_tup us)).push (PySem.HandSPX.excO C hp.objs.size)) kk hsz (exo_ok hget)
  have r1 : Vals (V.ref (hp.objs.size + 1) :: vs) (Value.ref (hp.objs.size + 1) :: us) := .cons rfl r
  have r2 := hb.rel r1 rz
  have n1 : (Value.ref (hp.objs.size + 1) :: us).length = n + 1 := by
    rw [List.length_cons, ← r.length, l1]
  have hus : us.length ≤ sizeLine := by
    rw [← Paired.length r, sizeLine_eq]
    omega
  refine wpAny_call (PySem.HandSPX.call_ownK FB hbm (I.kIn _ _ hC) (PySem.W.looks_findIn I.kIn iC) (fun self => PySem.W.bind_fn I.kIn self tI) hus
    (codeAny_mono (F1.run _ X.stack _ _ ⟨Value.ref (hp.objs.size + 1) :: us, ks.zip ws⟩ (g (Value.ref (hp.objs.size + 1) :: us) ws) _ _ (fun _ _ _ => False) (hr.make C us (ks.zip ws)) (I2.env0.make C us (ks.zip ws)) (hb.to _ (Value.ref (hp.objs.size + 1) :: us) ws I2.kIn n1 (rz.length.symm.trans l2)) r2 hq) fun r s' hq' => ?_))
  cases r with
  | error er => exact hx pins σ _ _ er s' I2 hq'
  | ok fl =>
    cases fl with
    | ret u =>
      obtain ⟨v, H2, I3, rv, ev, q3⟩ := I2.after hq'
      subst ev
      refine ⟨rv, ⟨V.ref (hp.objs.size + 1), H2, ?_, rfl, q3⟩⟩
      exact I3
    | next => exact False.elim hq'
    | brk => exact False.elim hq'
    | cont => exact False.elim hq'
section
variable {CX : CXT} {x : Str} {C fI : Addr} {k n : Nat} {fd : FuncData} {ps ks : List Str} {sp : Sp} {g : List Value → List Value → List Value} {gV : List V → List V → List V} {B T newId : String}
/-- C(k = v, ..) -/
theorem pe_makeXK0 (T1 : XCls X.K B T newId C) (iC : PySem.W.findIn X.K (.ref C) "__init__" = some (some (.ref fI))) (tI : PySem.W.typeIn X.K (.ref fI) = some (.type "function"))
    (F1 : FnOk X.prog X.w X.K X.mg X.base CX k fI fd ps sp) (hr : Room (k + 1) X.A) (hb : KBn X.K fd ps 1 ks g gV) (hx : Passes CX X (fun _ _ _ => False)) (hg : Gl X x) (hm : X.mg x = some (.ref C)) (hkw : PK X kws tk)
    (hall : (backToKw pos (keywordEach kws X.env)).all (·.1.isSome) = true := by rfl) (hks : (backToKw pos (keywordEach kws X.env)).filterMap (·.1) = ks := by rfl) (hdb : (x == ("__debug__" : Str)) = false := by decide)
    (hpl : ((backTo pos (starEach [] X.env)).any (·.1) || (backToKw pos (keywordEach kws X.env)).any (·.1.isNone)) = false := by rfl) :
    PE X (.Call (.Name x p) [] kws pos) (tMakeX C 0 ks.length sp gV tNil tk) := by
  refine ⟨fun pins s σ H Q I h => ?_⟩
  refine wpAny_Call_Name_kw (ld_glob I hg hm ?_ hdb)
  refine PySem.W.callWith_KW0 (h₀ := X.base) I.ok.mod.kin T1.kC hall ?_ hpl
  refine thn (hkw.run pos pins s σ H _ I h) fun ws s2 ⟨zs, H2, I2, rz, l1, l2, l3, q2⟩ => ⟨I2.kIn, ?_⟩
  rw [hks]
  exact run_makeX (us := []) (vs := []) T1 iC tI F1 hr hb hx I2 .nil rz rfl l2 (Nat.zero_le _) q2
/-- C(e, ..) -/
theorem pe_makeX (T1 : XCls X.K B T newId C) (iC : PySem.W.findIn X.K (.ref C) "__init__" = some (some (.ref fI))) (tI : PySem.W.typeIn X.K (.ref fI) = some (.type "function"))
    (F1 : FnOk X.prog X.w X.K X.mg X.base CX k fI fd ps sp) (hr : Room (k + 1) X.A) (hb : KBn X.K fd ps (n + 1) [] g gV) (hx : Passes CX X (fun _ _ _ => False)) (hg : Gl X x) (hm : X.mg x = some (.ref C)) (ha : PA X (e :: es) ta)
    (hdb : (x == ("__debug__" : Str)) = false := by decide) (he : starEach (e :: es) X.env = (false, eval e X.env) :: starEach es X.env := by rfl) (hpl : (backTo pos (starEach es X.env)).any (·.1) = false := by rfl) :
    PE X (.Call (.Name x p) (e :: es) [] pos) (tMakeX C n 0 sp gV ta tNil) := by
  refine ⟨fun pins s σ H Q I h => ?_⟩
  refine wpAny_Call_Name_kw (ld_glob I hg hm ?_ hdb)
  refine PySem.W.callWith_K (h₀ := X.base) I.ok.mod.kin T1.kC (thn (ha.run pos pins s σ H _ I h) fun us s1 ⟨vs, H1, I1, r, l1, l2, l3, q⟩ => ⟨I1.kIn, ?_⟩) he hpl
  exact run_makeX (ks := []) (ws := []) (zs := []) T1 iC tI F1 hr hb hx I1 r .nil l1 rfl l3 q
end
/-- C(), an own exception class without own __init__ -/
theorem pe_makeX0 {C : Addr} {bmB : List Value} {B newId initId : String} {x : Str} (F : ExcBaseFacts B newId initId bmB) (q : PySem.W.excIn X.K C bmB newId = true) (gC : X.mg x = some (.ref C)) (kC : PySem.W.keepIn X.K (.ref C) = true) (hg : Gl X x)
    (hdb : (x == ("__debug__" : Str)) = false := by decide) :
    PE X (.Call (.Name x p) [] [] pos) (fun _ H Q => ∀ a, H a = none → Q (.ref a) (upd H a (exo a C none))) := by
  refine ⟨fun pins s σ H Q I h => ?_⟩
  refine wpAny_Call_Name_kw (ld_glob I hg gC ?_ hdb)
  refine PySem.W.callWith_K0 I.kIn kC ?_
  show wpAny _ _ (call (.ref C) []) _ _ _
  obtain ⟨bm, N, nm, qn, bs, hdct, sn, sub, ab, col, dd, k0, k1, k2, k3, k5, mN, hC, hN, hni, T⟩ := exc_obj I.kIn q
  refine wpAny_call_exc_subT F T hC hN hni (fun h' a hm => ?_) (by show 0 ≤ sizeLine; rw [sizeLine_eq]; omega)
  have hn : H a = none := I.hok.gone hm.new
  obtain ⟨t, ht, _, _⟩ := hm.there
  exact ⟨.ref a, upd H a (exo a C none), I.laidN hm.keeps hm.new hn (exo_ok ht), rfl, h a hn⟩
theorem pe_fldX {te : TE} {n : Str} (he : PE X e te) (hb : attributeBase e n X.env (eval e X.env) = eval e X.env := by rfl) : PE X (.Attribute e n pos) (tFldX X.K n te) := by
  refine ⟨fun pins s σ H Q I h => ?_⟩
  refine attr_of hb (thn (he.run pins s σ H _ I h) fun u s1 hh => ?_)
  obtain ⟨x, H1, I1, rx, a, C, dd, B, T, newId, fs, v, ex, T1, hno, ea, ed, l, q⟩ := hh
  subst ex
  obtain rfl : u = Value.ref a := rx
  obtain ⟨t1, ho⟩ := exo_at I1.hok ea
  obtain ⟨mA, hns, hr⟩ := exd_at I1.hok ed
  obtain ⟨od, hod, hl⟩ := lookIn_ns hns
  obtain ⟨u, hu, ru⟩ := RelO.some_of (v := v) (o := mA n) (by rw [← l]; exact hr n)
  obtain ⟨ox, J⟩ := inst_exo (d := some dd) (od := some od) ho hod
  exact HandSPX.exc_get I1.kIn J T1.ga T1.gg T1.exC (PySem.W.findObj_own T1.hdC hno rfl (by rw [hl, hu])) (handed_of ru) ⟨v, H1, I1.tok _, ru, q⟩
theorem call_isiX : CallR X (.builtin "isinstance") (rIsiX X.K) := by
  intro pins s σ H xs us Q I r h
  obtain ⟨a, C, d, B, T, newId, c, u, b, rfl, k, T1, ea, ed, e, q⟩ := h
  obtain ⟨u1, u2, rfl, r1, r2⟩ := vals2 r
  obtain rfl : u1 = Value.ref a := r1
  have e2 := k.eq r2
  subst e2
  obtain ⟨t1, ho⟩ := exo_at I.hok ea
  obtain ⟨cd, bm, hcl, _, _, _⟩ := T1.clsIn
  have hcl' : (PySem.W.clsIn X.K C).isSome = true := by rw [hcl]; rfl
  have key : ∃ od ox, PySem.W.InstAt s.heap a ox C od := by
    cases d with
    | none =>
      obtain ⟨ox, J⟩ := inst_exo (d := none) (od := none) ho True.intro
      exact ⟨none, ox, J⟩
    | some dx =>
      obtain ⟨fs, z⟩ := ed dx rfl
      obtain ⟨mA, hns, hr⟩ := exd_at I.hok z
      obtain ⟨od, hod, hl⟩ := lookIn_ns hns
      obtain ⟨ox, J⟩ := inst_exo (d := some dx) (od := some od) ho hod
      exact ⟨some od, ox, J⟩
  obtain ⟨od, ox, J⟩ := key
  exact PySem.W.kia_one (PySem.W.kitx_exc hcl' T1.ga T1.gg T1.exC T1.ha T1.hn T1.htk T1.hm) I.kIn J e (fun z => nomatch z) fun tk => ⟨.bl b, H, I.tok tk, rfl, q⟩
end
end XX

set_option maxRecDepth 100000
set_option maxHeartbeats 4000000
namespace PySem.W
open PySem PySem.Calls PyProof.Rows
/-! ### own + and * of plain instances, on either side -/
section
variable {prog : Program} {w : World} {A : Around} {E : Value → Shared → Prop} {s : Shared} {K : Frag} {x C L f f0 : Addr} {h₀ : Heap} {m : Str → Option Value} {ox : Obj} {od : Option Obj} {T : String}
/-- the own class on the left, a built-in type on the right -/
theorem own_binT {op : Operator} {b : Value} {fo ro rc : Option Value} {Q : Value → Shared → Prop} (F : Fr h₀ L s.heap m) (X₀ : K.In h₀) (I : InstAt s.heap x ox C od) (hb : Looks (model prog w) s.heap (typeOf b) (.type T)) (hc : selfFirst K C = true)
    (hs : findIn K (.ref C) (PySem.dunder op.info.2) = some (some (.ref f))) (hf : isFn K (.ref f) = true) (hr : findIn K (.ref C) (dunderR op.info.2) = some rc) (hp : rc = none ∨ ∃ g : Addr, rc = some (.ref g))
    (h1 : findIn K (.type T) (PySem.dunder op.info.2) = some fo) (h2 : findIn K (.type T) (dunderR op.info.2) = some ro) (hsub : subIn K (.type T) (.ref C) = some false)
    (h : wpAny (model prog w) A (call (.ref f) [.ref x, b]) (CmpBack Q) E s) : wpAny (model prog w) A (binaryOp op (.ref x) b) Q E s := by
  have X := X₀.keeps F.keep
  obtain ⟨cd, rest, hcd, hm⟩ := ksp_first hc
  rcases hi : op.info with ⟨sym, nm'⟩
  rw [hi] at hs hr h1 h2
  dsimp only at hs hr h1 h2
  have one := ksp_try X I hs hf h
  obtain ⟨hh, g, d, tt, os⟩ := s
  have L1 : Looks (model prog w) hh (typeOf (.ref x)) (.ref C) := I.type
  have L2 : Looks (model prog w) hh (typeOf b) (.type T) := hb
  have L3 : Looks (model prog w) hh (fillsNumberSlot (.ref C) nm') true := fills_K X hcd hm hs
  have L4 : Looks (model prog w) hh (fillsNumberSlot (.type T) nm') ((fo.isSome && !isSeqSlot fo) || (ro.isSome && !isSeqSlot ro)) := ksp_fillsT X h1 h2
  have L5 : Looks (model prog w) hh (isSubtype (.type T) (.ref C)) false := looks_subIn X hsub
  have L6 : Looks (model prog w) hh (numberSlotInPython (.ref C) nm') true := ksp_inPy X hs hr hp
  have L7 : Looks (model prog w) hh (numberSlotInPython (.type T) nm') false := Looks.of_pure rfl
  have L8 : Looks (model prog w) hh (typeLookup (.type T) (dunderR nm')) ro := looks_findIn X h2
  generalize ((fo.isSome && !isSeqSlot fo) || (ro.isSome && !isSeqSlot ro)) = right at L4
  have hne : (Value.ref C == Value.type T) = false := Bool.eq_false_iff.mpr fun q => by cases beq_iff_eq.mp q
  simp only [binaryOp, hi]
  refine wpAny_holding (wpAny_bind ?_)
  unfold binaryOp1
  refine wpAny_bind (L1.at (wpAny_bind (L2.at (wpAny_bind (L3.at ?_)))))
  simp only [hne, Bool.false_eq_true, if_false]
  cases right with
  | false =>
    ksp_lk
    refine wpAny_mono one (fun r s' hr' => ?_) fun _ _ e => e
    obtain ⟨v, rfl, hq⟩ := hr'
    ksp_lk
    exact hq
  | true =>
    ksp_lk
    refine wpAny_mono one (fun r s' hr' => ?_) fun _ _ e => e
    obtain ⟨v, rfl, hq⟩ := hr'
    ksp_lk
    exact hq
/-- a built-in type that fills no number slot on the left, the own class on the right -/
theorem own_binR {op : Operator} {a : Value} {fo ro : Option Value} {Q : Value → Shared → Prop} (F : Fr h₀ L s.heap m) (X₀ : K.In h₀) (I : InstAt s.heap x ox C od) (ha : Looks (model prog w) s.heap (typeOf a) (.type T)) (hc : selfFirst K C = true)
    (hs : findIn K (.ref C) (PySem.dunder op.info.2) = some (some (.ref f0))) (hr : findIn K (.ref C) (dunderR op.info.2) = some (some (.ref f))) (hf : isFn K (.ref f) = true)
    (h1 : findIn K (.type T) (PySem.dunder op.info.2) = some fo) (h2 : findIn K (.type T) (dunderR op.info.2) = some ro) (hno : ((fo.isSome && !isSeqSlot fo) || (ro.isSome && !isSeqSlot ro)) = false)
    (h : wpAny (model prog w) A (call (.ref f) [.ref x, a]) (CmpBack Q) E s) : wpAny (model prog w) A (binaryOp op a (.ref x)) Q E s := by
  have X := X₀.keeps F.keep
  obtain ⟨cd, rest, hcd, hm⟩ := ksp_first hc
  rcases hi : op.info with ⟨sym, nm'⟩
  rw [hi] at hs hr h1 h2
  dsimp only at hs hr h1 h2
  have one := ksp_try X I hr hf h
  obtain ⟨hh, g, d, tt, os⟩ := s
  have L1 : Looks (model prog w) hh (typeOf (.ref x)) (.ref C) := I.type
  have L2 : Looks (model prog w) hh (typeOf a) (.type T) := ha
  have L3 : Looks (model prog w) hh (fillsNumberSlot (.ref C) nm') true := fills_K X hcd hm hs
  have L4 : Looks (model prog w) hh (fillsNumberSlot (.type T) nm') ((fo.isSome && !isSeqSlot fo) || (ro.isSome && !isSeqSlot ro)) := ksp_fillsT X h1 h2
  rw [hno] at L4
  have hne : (Value.type T == Value.ref C) = false := Bool.eq_false_iff.mpr fun q => by cases beq_iff_eq.mp q
  simp only [binaryOp, hi]
  refine wpAny_holding (wpAny_bind ?_)
  unfold binaryOp1
  refine wpAny_bind (L2.at (wpAny_bind (L1.at (wpAny_bind (L4.at ?_)))))
  simp only [hne, Bool.false_eq_true, if_false]
  ksp_lk
  refine wpAny_mono one (fun r s' hr' => ?_) fun _ _ e => e
  obtain ⟨v, rfl, hq⟩ := hr'
  ksp_lk
  exact hq
end
end PySem.W

set_option maxRecDepth 100000
set_option maxHeartbeats 4000000
namespace XX
open PySem PySem.Spec PyProof.Rows L2
theorem rel_back {Q : Value → Shared → Prop} {z : V} {v : Value} {s : Shared} (r : RelV z v) (q : Q v s) : PySem.W.CmpBack Q v s := by
  cases z with
  | non => cases r; exact q
  | bl b => cases r; exact q
  | int i =>
    obtain ⟨t, rfl⟩ := r
    exact q
  | str x =>
    obtain ⟨t, rfl⟩ := r
    exact q
  | byt b =>
    obtain ⟨t, rfl⟩ := r
    exact q
  | flt b =>
    obtain ⟨t, rfl⟩ := r
    exact q
  | ref a => cases r; exact q
  | ty n => cases r; exact q
/-- what an own operator asks of its class -/
structure OpC (K : PySem.W.Frag) (C : Addr) (op : Operator) : Prop where
  first : PySem.W.selfFirst K C = true
  r : ∃ rc, PySem.W.findIn K (.ref C) (dunderR op.info.2) = some rc ∧ (rc = none ∨ ∃ g : Addr, rc = some (.ref g))
/-- .. of a built-in type beside it -/
structure OpT (K : PySem.W.Frag) (C : Addr) (op : Operator) (T : String) : Prop where
  l : ∃ fo ro, PySem.W.findIn K (.type T) (PySem.dunder op.info.2) = some fo ∧ PySem.W.findIn K (.type T) (dunderR op.info.2) = some ro
  sub : PySem.W.subIn K (.type T) (.ref C) = some false
/-- .. that fills no number slot -/
def OpN (K : PySem.W.Frag) (op : Operator) (T : String) : Prop := ∃ fo ro, PySem.W.findIn K (.type T) (PySem.dunder op.info.2) = some fo ∧ PySem.W.findIn K (.type T) (dunderR op.info.2) = some ro ∧ ((fo.isSome && !isSeqSlot fo) || (ro.isSome && !isSeqSlot ro)) = false
section
variable {X : Cx} {CX : CXT} {k : Nat} {C : Addr} {sp : Sp} {op : Operator}
/-- a op b, a an instance of C -/
def tOpI (K : PySem.W.Frag) (C : Addr) (op : Operator) (sp : Sp) (E : L2.St → XK) (ta tb : TE) : TE := fun σ H Q => ta σ H fun x H1 => tb σ H1 fun y H2 => ∃ a dx fs, x = .ref a ∧ H2 a = some (.ins C dx fs) ∧ ((∃ b dy gs, y = .ref b ∧ H2 b = some (.ins C dy gs)) ∨ ∃ T, TyX K H2 y (.type T) ∧ OpT K C op T) ∧ sp [x, y] H2 Q (E σ)
theorem pe_opI {E : L2.St → XK} {ta tb : TE} {a b : Expr} {pos : Pos} (M : MtC X.prog X.w X.K X.mg X.base CX k C (PySem.dunder op.info.2) ["self", "other"] sp) (O : OpC X.K C op) (hr : Room k X.A) (hx : ∀ σ, PassesAt CX X σ (E σ)) (ha : PE X a ta) (hb : PE X b tb) : PE X (.BinOp a op b pos) (tOpI X.K C op sp E ta tb) := by
  refine ⟨fun pins s σ H Q I h => ?_⟩
  refine wpAny_BinOp (binT ha hb I h fun v u s2 x y H2 I2 rx ry q => ?_)
  obtain ⟨a', dx, fs, rfl, ea, hy, q2⟩ := q
  obtain rfl : v = Value.ref a' := rx
  obtain ⟨f, fd, F, hm, bi⟩ := M.ex
  obtain ⟨mA, J, _⟩ := ins_get I2.hok ea
  obtain ⟨od, J, _⟩ := J.look
  obtain ⟨m, hF⟩ := I2.fr
  have run := wpAny_mono (run_at F hr I2.env0 bi (hx σ) I2 (us := [.ref a', u]) (vs := [.ref a', y]) (.cons rfl (.cons ry .nil)) q2) (fun w s' q => by
    obtain ⟨z, H', I', rz, q⟩ := q
    exact rel_back (Q := EP X pins σ Q) rz ⟨z, H', I', rz, q⟩) fun _ _ e => e
  rcases hy with ⟨b', dy, gs, rfl, eb⟩ | ⟨T, hT, OT⟩
  · cases ry
    obtain ⟨mB, JB, _⟩ := ins_get I2.hok eb
    obtain ⟨odB, JB, _⟩ := JB.look
    exact PySem.W.binop_K hF I2.ok.mod.kin J JB.type O.first hm.at_ hm.fn run
  · obtain ⟨Pk, Z, hP, _⟩ := kit_of I2 ry hT
    obtain ⟨rc, h1, h2⟩ := O.r
    obtain ⟨fo, ro, h3, h4⟩ := OT.l
    exact PySem.W.own_binT hF I2.ok.mod.kin J (Z.ty _ _ I2.kIn hP) O.first hm.at_ hm.fn h1 h2 h3 h4 OT.sub run
/-- a op b, b an instance of C, a of a built-in type without number slots -/
def tOpR (K : PySem.W.Frag) (C : Addr) (op : Operator) (sp : Sp) (E : L2.St → XK) (ta tb : TE) : TE := fun σ H Q => ta σ H fun x H1 => tb σ H1 fun y H2 => ∃ b dy gs, y = .ref b ∧ H2 b = some (.ins C dy gs) ∧ (∃ T, TyX K H2 x (.type T) ∧ OpN K op T) ∧ sp [y, x] H2 Q (E σ)
theorem pe_opR {E : L2.St → XK} {ta tb : TE} {a b : Expr} {pos : Pos} (M : MtC X.prog X.w X.K X.mg X.base CX k C (dunderR op.info.2) ["self", "other"] sp) (hs : ∃ f0 : Addr, PySem.W.findIn X.K (.ref C) (PySem.dunder op.info.2) = some (some (.ref f0))) (hc : PySem.W.selfFirst X.K C = true) (hr : Room k X.A) (hx : ∀ σ, PassesAt CX X σ (E σ)) (ha : PE X a ta) (hb : PE X b tb) : PE X (.BinOp a op b pos) (tOpR X.K C op sp E ta tb) := by
  refine ⟨fun pins s σ H Q I h => ?_⟩
  refine wpAny_BinOp (binT ha hb I h fun v u s2 x y H2 I2 rx ry q => ?_)
  obtain ⟨b', dx, fs, rfl, ea, ⟨T, hT, fo, ro, h3, h4, h5⟩, q2⟩ := q
  obtain rfl : u = Value.ref b' := ry
  obtain ⟨f, fd, F, hm, bi⟩ := M.ex
  obtain ⟨f0, hs⟩ := hs
  obtain ⟨mA, J, _⟩ := ins_get I2.hok ea
  obtain ⟨od, J, _⟩ := J.look
  obtain ⟨m, hF⟩ := I2.fr
  obtain ⟨Pk, Z, hP, _⟩ := kit_of I2 rx hT
  have run := wpAny_mono (run_at F hr I2.env0 bi (hx σ) I2 (us := [.ref b', v]) (vs := [.ref b', x]) (.cons rfl (.cons rx .nil)) q2) (fun w s' q => by
    obtain ⟨z, H', I', rz, q⟩ := q
    exact rel_back (Q := EP X pins σ Q) rz ⟨z, H', I', rz, q⟩) fun _ _ e => e
  exact PySem.W.own_binR hF I2.ok.mod.kin J (Z.ty _ _ I2.kIn hP) hc hs hm.at_ hm.fn h3 h4 h5 run
end
end XX

set_option maxRecDepth 100000
set_option maxHeartbeats 4000000
namespace PySem
open Sem (wp)
open Builtin
theorem int___mul___int_ins (a : Int) (t : Tok) (l C dx : Addr) :
    Meets (Builtin.«int.__mul__» ⟨[.int a t, .ref l], []⟩) (fun _ R s => s.heap.get? l = some (PySem.W.instObj C dx) ∧ R (.ok (.ret Value.notImplemented)) s) :=
  .of_wp fun prog w A R s h => by obtain ⟨hp, g, d, tk, os⟩ := s; obtain ⟨hl, h⟩ := h; unfold PySem.W.instObj at hl; wp_walk; exact ⟨_, rfl, h⟩
theorem int___mul___bool_ins (a : Bool) (l C dx : Addr) :
    Meets (Builtin.«int.__mul__» ⟨[.bool a, .ref l], []⟩) (fun _ R s => s.heap.get? l = some (PySem.W.instObj C dx) ∧ R (.ok (.ret Value.notImplemented)) s) :=
  .of_wp fun prog w A R s h => by obtain ⟨hp, g, d, tk, os⟩ := s; obtain ⟨hl, h⟩ := h; unfold PySem.W.instObj at hl; wp_walk; exact ⟨_, rfl, h⟩
end PySem
namespace PySem.W
open PySem PySem.Calls PyProof.Rows
section
variable {prog : Program} {w : World} {A : Around} {E : Value → Shared → Prop} {s : Shared} {K : Frag} {x C L f f0 : Addr} {h₀ : Heap} {m : Str → Option Value} {ox : Obj} {od : Option Obj} {T : String}
/-- a built-in type on the left, whose own slot declines; the own class on the right -/
theorem own_binD {op : Operator} {a : Value} {id : String} {Q : Value → Shared → Prop} (F : Fr h₀ L s.heap m) (X₀ : K.In h₀) (I : InstAt s.heap x ox C od) (ha : s.TypeIs a T) (hc : selfFirst K C = true)
    (hs : findIn K (.ref C) (PySem.dunder op.info.2) = some (some (.ref f0))) (hr : findIn K (.ref C) (dunderR op.info.2) = some (some (.ref f))) (hf : isFn K (.ref f) = true)
    (hfT : fillsNumberSlot (.type T) op.info.2 = pure true) (sl : Slot T (PySem.dunder op.info.2) id) (hsub : subIn K (.ref C) (.type T) = some false)
    (hd : ∀ R : Value → Shared → Prop, R .notImplemented s → wpAny (model prog w) A (call (.builtin id) [a, .ref x]) R E s)
    (h : wpAny (model prog w) A (call (.ref f) [.ref x, a]) (CmpBack Q) E s) : wpAny (model prog w) A (binaryOp op a (.ref x)) Q E s := by
  have X := X₀.keeps F.keep
  obtain ⟨cd, rest, hcd, hm⟩ := ksp_first hc
  have one := ksp_try X I hr hf h
  have dec : ∀ R : Option Value → Shared → Prop, R none s → wpAny (model prog w) A (tryMethod a (PySem.dunder op.info.2) (.ref x)) R E s := fun R q => wpAny_tryMethod_declines ha sl (hd _ ⟨rfl, q⟩)
  rcases hi : op.info with ⟨sym, nm'⟩
  rw [hi] at hs hr hfT sl one dec
  dsimp only at hs hr hfT sl one dec
  have hne : (Value.type T == Value.ref C) = false := Bool.eq_false_iff.mpr fun q => by cases beq_iff_eq.mp q
  simp only [binaryOp, hi]
  refine wpAny_holding (wpAny_bind ?_)
  unfold binaryOp1
  refine wpAny_bind (wpAny_typeOf ha (wpAny_bind (I.type.here (wpAny_bind (wpAny_of_eq hfT ?_)))))
  simp only [hne, Bool.false_eq_true, if_false]
  refine wpAny_bind ((fills_K X hcd hm hs).here ?_)
  simp only [Bool.and_self, if_true]
  refine wpAny_bind ((looks_subIn X hsub).here ?_)
  simp only [Bool.false_eq_true, if_false]
  rw [if_pos (show (true && !false) = true from rfl)]
  refine wpAny_bind (wpAny_of_eq (show numberSlotInPython (.type T) nm' = pure false from rfl) ?_)
  simp only [Bool.false_eq_true, if_false]
  refine wpAny_bind (dec _ ?_)
  simp only [Bool.not_false, Bool.and_self, if_true]
  refine wpAny_bind (wpAny_mono one (fun r s' hr' => ?_) fun _ _ e => e)
  obtain ⟨v, rfl, hq⟩ := hr'
  ksp_lk
  exact hq
end
end PySem.W
namespace XX
open PySem PySem.Spec PyProof.Rows L2
section
variable {X : Cx} {CX : CXT} {k : Nat} {C : Addr} {sp : Sp}
/-- n * b, b an instance of C, n an int or a bool -/
def tMulD (C : Addr) (sp : Sp) (E : L2.St → XK) (ta tb : TE) : TE := fun σ H Q => ta σ H fun x H1 => tb σ H1 fun y H2 => ∃ b dy gs, y = .ref b ∧ H2 b = some (.ins C dy gs) ∧ ((∃ i, x = .int i) ∨ ∃ t, x = .bl t) ∧ sp [y, x] H2 Q (E σ)
theorem pe_mulD {E : L2.St → XK} {ta tb : TE} {a b : Expr} {pos : Pos} (M : MtC X.prog X.w X.K X.mg X.base CX k C "__rmul__" ["self", "other"] sp) (hs : ∃ f0 : Addr, PySem.W.findIn X.K (.ref C) "__mul__" = some (some (.ref f0))) (hc : PySem.W.selfFirst X.K C = true)
    (hi : PySem.W.subIn X.K (.ref C) (.type "int") = some false) (hb : PySem.W.subIn X.K (.ref C) (.type "bool") = some false) (hr : Room k X.A) (hx : ∀ σ, PassesAt CX X σ (E σ)) (ha : PE X a ta) (hb' : PE X b tb) : PE X (.BinOp a .Mult b pos) (tMulD C sp E ta tb) := by
  refine ⟨fun pins s σ H Q I h => ?_⟩
  refine wpAny_BinOp (binT ha hb' I h fun v u s2 x y H2 I2 rx ry q => ?_)
  obtain ⟨b', dx, fs, rfl, ea, hT, q2⟩ := q
  obtain rfl : u = Value.ref b' := ry
  obtain ⟨f, fd, F, hm, bi⟩ := M.ex
  obtain ⟨f0, hs⟩ := hs
  obtain ⟨mA, J, _⟩ := ins_get I2.hok ea
  have ho := J.obj
  obtain ⟨od, J, _⟩ := J.look
  obtain ⟨m, hF⟩ := I2.fr
  have run := wpAny_mono (run_at F hr I2.env0 bi (hx σ) I2 (us := [.ref b', v]) (vs := [.ref b', x]) (.cons rfl (.cons rx .nil)) q2) (fun w s' q => by
    obtain ⟨z, H', I', rz, q⟩ := q
    exact rel_back (Q := EP X pins σ Q) rz ⟨z, H', I', rz, q⟩) fun _ _ e => e
  rcases hT with ⟨i, rfl⟩ | ⟨t, rfl⟩
  · obtain ⟨tk, rfl⟩ := rx
    exact PySem.W.own_binD (op := .Mult) (T := "int") hF I2.ok.mod.kin J (PySem.typeIs_int s2 i tk) hc hs hm.at_ hm.fn PySem.F.fills_int_mul PySem.F.slot_int_mul hi
      (fun R q => call_meets PySem.F.slot_int_mul (PySem.typeIs_int s2 i tk) PySem.F.entry_int_mul (PySem.F.args_int_mul_2 _ _) (int___mul___int_ins i tk b' C dx) ⟨ho, q⟩) run
  · cases rx
    exact PySem.W.own_binD (op := .Mult) (T := "bool") hF I2.ok.mod.kin J (PySem.typeIs_bool s2 t) hc hs hm.at_ hm.fn PySem.F.fills_bool_mul PySem.F.slot_bool_mul hb
      (fun R q => call_meets PySem.F.slot_bool_mul (PySem.typeIs_bool s2 t) PySem.F.entry_int_mul (PySem.F.args_int_mul_2 _ _) (int___mul___bool_ins t b' C dx) ⟨ho, q⟩) run
end
end XX

set_option maxRecDepth 100000
set_option maxHeartbeats 4000000
namespace XX
open PySem PySem.Spec PyProof.Rows L2
/-! ### defs with *args: the tuple is laid when they are called -/
abbrev SpV := List V → List V → Hp → VK → XK → Prop
structure FnV (P : Program) (w : World) (K : PySem.W.Frag) (mg : Str → Option Value) (base : Heap) (CX : CXT) (k : Nat) (f : Addr) (ps : List Str) (sp : SpV) : Prop where
  lenV : ∀ vs xs H Q E, sp vs xs H Q E → vs.length = ps.length ∧ xs.length ≤ 1000
  runV : ∀ (A : Around) (outer : List Env) (s : Shared) (H : Hp) (us ws : List Value) (vs xs : List V) (Q : VK) (E : XK), Room k A → Env0 P w K mg base A outer s H → Vals vs us → Vals xs ws → sp vs xs H Q E →
    codeAny (model P w) A (.call (.ref f) ⟨us ++ ws, []⟩) (CR CX outer P w H s Q E) s
/-- what may come out of a call counts for the caller's heap too -/
def CxUp (CX : CXT) (P : Program) (w : World) : Prop := ∀ (outer : List Env) (H H2 : Hp) (s s2 : Shared) (E : XK) (e : Value) (s' : Shared), (∀ b ∈ frs outer, H b = none) → Un (frs outer) [] H H2 s.heap s2.heap → s2.os = s.os → CX outer H2 s2 E e s' → CX outer H s E e s'
theorem cxUp0 {P : Program} {w : World} : CxUp CX0 P w := fun _ _ _ _ _ _ _ _ _ _ _ z => z.elim
theorem ub_up {fs : List Addr} {H H2 H' : Hp} {h h2 B h' : Heap} (hf : ∀ b ∈ fs, H b = none) (u : Un fs [] H H2 h h2) (ub : UB fs H2 H' h2 B h') : UB fs H H' h B h' where
  keep := fun b o e n hb => ub.keep b o (u.keep b o e n hb List.not_mem_nil) (u.free b o e n List.not_mem_nil) hb
  slot := fun b o e hb => by
    obtain ⟨sl, e1⟩ := u.slot b o e (hf b hb) hb List.not_mem_nil
    obtain ⟨sl2, e2⟩ := ub.slot b _ e1 hb
    exact ⟨sl2, e2⟩
  free := fun b o e n => by
    obtain ⟨o2, e2⟩ := u.there b o e List.not_mem_nil
    exact ub.free b o2 e2 (u.free b o e n List.not_mem_nil)
  there := fun b o e hb => by
    obtain ⟨o2, e2⟩ := u.there b o e List.not_mem_nil
    exact ub.there b o2 e2 hb
  tups := fun b xs e => ub.tups b xs (u.tups b xs e)
  frzs := fun b o xs e => ub.frzs b o xs (u.frzs b o xs e)
  tbls := fun b ps e => by
    obtain ⟨m1, e1⟩ := u.tbls b ps e
    obtain ⟨m2, e2⟩ := ub.tbls b _ e1
    exact ⟨m1 ++ m2, by rw [e2, Array.append_assoc]⟩
theorem cxUpX {P : Program} {w : World} : CxUp (L2.CX P w) P w := fun outer H H2 s s2 E e s' hf u hos ⟨a, B, H', cls, d, e1, e2, e3, e4, e5, e6, e7, e8⟩ => ⟨a, B, H', cls, d, e1, e2, e3, ub_up hf u e4, e5, e6.trans hos, e7, e8⟩
theorem frs_mem {outer : List Env} {b : Addr} {h base : Heap} (hf : h.FunFrames base outer) (hb : b ∈ frs outer) : ∃ o, h.get? b = some o := by
  obtain ⟨_, o, ho, _⟩ := Heap.FunFrames.mem hf hb
  exact ⟨o, ho⟩
/-- the caller's side behind a tuple that is laid -/
theorem env0_tup {P : Program} {w : World} {K : PySem.W.Frag} {mg : Str → Option Value} {base : Heap} {A : Around} {outer : List Env} {s : Shared} {H : Hp} {xs : List V} {ws : List Value} (e0 : Env0 P w K mg base A outer s H) (r : Vals xs ws) (hz : xs.length ≤ sizeLine) :
    Env0 P w K mg base A outer { s with heap := s.heap.push { cls := .type "tuple", data := .seq ws.toArray } } (upd H s.heap.objs.size (.tup xs)) := by
  have kp : ∀ b u, s.heap.get? b = some u → (s.heap.push { cls := .type "tuple", data := .seq ws.toArray }).get? b = some u := fun b o e => Heap.get?_push_of_some _ e
  refine ⟨e0.frames, e0.mod, fun b o hb => ⟨kp _ _ (e0.bs b o hb).1, ?_⟩, ?_, ?_, fun b hb => ?_, ?_, e0.bare⟩
  · rw [upd_ne (Nat.ne_of_lt (Heap.lt_size (e0.bs b o hb).1))]
    exact (e0.bs b o hb).2
  · have := e0.bsz
    show base.objs.size ≤ (s.heap.push _).objs.size
    unfold Heap.push
    rw [Array.size_push]
    exact Nat.le_succ_of_le this
  · exact Heap.FunFrames.of_keeps (fun b o e _ => ⟨o, kp _ _ e, rfl⟩) e0.funs
  · obtain ⟨o, ho⟩ := frs_mem e0.funs hb
    rw [upd_ne (Nat.ne_of_lt (Heap.lt_size ho))]
    exact e0.frf b hb
  · exact e0.hok.laid kp (Nat.le_refl _) (show ObjOk P w _ _ _ (.tup xs) from ⟨hz, ws, r, IsTup.new _ _⟩)
section
variable {P : Program} {w : World} {K : PySem.W.Frag} {mg : Str → Option Value} {base : Heap}
theorem fun_okV {f : Addr} {fd : FuncData} {CX : CXT} {x q : Str} {st : Stmt} {N ps : List Str} {va : Str} {k : Nat} {sp : SpV} (F : L2.Fun K x q st f fd) (S : FnScope N (ps ++ [va]) (defScope st)) (up : CxUp CX P w) (len : ∀ vs xs H Q E, sp vs xs H Q E → vs.length = ps.length ∧ xs.length ≤ 1000)
    (hb : ∀ us ws : List Value, us.length = ps.length → bindArgs fd ⟨us ++ ws, []⟩ = (newTuple ws >>= fun t => pure (ps.zip us ++ [(va, t)])))
    (hbody : ∀ (cdv : Value) (A : Around) (outer : List Env) (s s2 : Shared) (H : Hp) (vs xs : List V) (Q : VK) (E : XK), Room k (A.deeper (envOfC q (defScope st) s2.heap.objs.size f cdv)) → H s.heap.objs.size = none → sp vs xs H Q E →
      ∃ t, PSs (cxOf CX P w K mg base N q (defScope st) f cdv A outer s2 (upd H s.heap.objs.size (.tup xs)) E) (defBody st) t ∧ t { nx := fun _ H' => Q .non H', rt := Q } (L2.start N (vs ++ [.ref s.heap.objs.size])) (upd H s.heap.objs.size (.tup xs))) : FnV P w K mg base CX (k + 1) f ps sp := by
  refine ⟨len, fun A outer s H us ws vs xs Q E hr e0 r rx hsp => ?_⟩
  have hb' := hb
  obtain ⟨oc, od, kV, doc, pm, an, cdv, ct, osl, rfl, lk, hcd⟩ := F.ex
  obtain ⟨len0, lenx⟩ := len _ _ _ _ _ hsp
  have hlu : us.length = ps.length := by rw [← r.length]; exact len0
  have hz : xs.length ≤ sizeLine := by rw [sizeLine_eq]; omega
  have hin : K.In s.heap := e0.mod.kin.keeps fun b o q => (e0.bs b o q).1
  have hnl : s.heap.NoLimit := e0.mod.nolimit.keeps fun b o q => (e0.bs b o q).1
  have e2 := env0_tup e0 rx hz
  have hD : H s.heap.objs.size = none := e0.hok.fresh (Nat.le_refl _)
  have kp : ∀ b u, s.heap.get? b = some u → (s.heap.push { cls := .type "tuple", data := .seq ws.toArray }).get? b = some u := fun b o e => Heap.get?_push_of_some _ e
  have unl : Un (frs outer) [] H (upd H s.heap.objs.size (.tup xs)) s.heap (s.heap.push { cls := .type "tuple", data := .seq ws.toArray }) := Un.laid kp (Nat.le_refl _) hD
  have hzip : ps.zip us ++ [(va, Value.ref s.heap.objs.size)] = (ps ++ [va]).zip (us ++ [Value.ref s.heap.objs.size]) := by
    rw [List.zip_append hlu.symm]
    rfl
  have r2 : Vals (vs ++ [.ref s.heap.objs.size]) (us ++ [Value.ref s.heap.objs.size]) := Vals.append r (.cons rfl .nil)
  have len2 : (vs ++ [V.ref s.heap.objs.size]).length = (ps ++ [va]).length := by
    rw [List.length_append, List.length_append, len0]
    rfl
  refine codeAny_call_function hr.depth (hin _ _ lk) rfl S.co S.gen rfl (PySem.W.codeRec_of hin hcd) ?_
  rw [hb' us ws hlu]
  refine wpAny_bind (wpAny_newTuple (wpAny_pure ?_) (by rw [← rx.length]; exact hz))
  rw [hzip]
  generalize hs2 : ({ s with heap := s.heap.push { cls := .type "tuple", data := .seq ws.toArray } } : Shared) = s2
  have e2' : Env0 P w K mg base A outer s2 (upd H s.heap.objs.size (.tup xs)) := hs2 ▸ e2
  have hos : s2.os = s.os := by rw [← hs2]
  have unl2 : Un (frs outer) [] H (upd H s.heap.objs.size (.tup xs)) s.heap s2.heap := by rw [← hs2]; exact unl
  have hnl2 : s2.heap.NoLimit := e0.mod.nolimit.keeps fun b o q => (e2'.bs b o q).1
  have knd : ∀ y ∈ (ps ++ [va]).zip (us ++ [Value.ref s.heap.objs.size]), (defScope st).names.lookup y.1 = some .local ∨ ((defScope st).names.lookup y.1 = some .cell ∧ ((cellsFrom (s2.heap.objs.size + 1) (defScope st).names []).lookup y.1).isSome = true) := by
    rintro ⟨n, v⟩ hy
    exact (S.par n (List.of_mem_zip hy).1).imp id fun q => ⟨q, PySem.W.cellsFrom_some _ _ _ (.inl q)⟩
  refine wpAny_newFunctionEnv_cells S.kind knd fun env he s1 x1 => ?_
  subst he
  refine ⟨hnl2.keeps x1.toInCall.keep, codeAny_func ?_⟩
  obtain ⟨t, ht, hq⟩ := hbody cdv A outer s s2 H vs xs Q E (hr.deeper _) hD hsp
  have fin : ∀ {s' : Shared} {τ : L2.St} {H' : Hp} {v : V} {u : Value}, Inv (cxOf CX P w K mg base N q (defScope st) f cdv A outer s2 (upd H s.heap.objs.size (.tup xs)) E) [] τ H' s' → RelV v u → Q v H' → CE outer P w H s Q u s' :=
    fun J rv q => ⟨_, _, J.os.trans hos, J.bare, unl2.trans J.base, J.hok, rv, q⟩
  refine wpAny_mono (ht.run [] s1 (L2.start N (vs ++ [.ref s.heap.objs.size])) _ _ (inv_start S hr.hd e2' len2 r2 x1) hq) (fun fl s' hs => ?_) fun e s' hs => wpAny_mono hs (fun _ s'' z => up _ _ _ _ _ _ _ _ e0.frf unl2 hos z) fun e' s'' z => up _ _ _ _ _ _ _ _ e0.frf unl2 hos z
  match fl, hs with
  | .ret u, ⟨v, τ, H', J, rv, q⟩ => exact fin J rv q
  | .next, ⟨τ, H', J, q⟩ => exact fin (v := V.non) (u := Value.none) J rfl q
  | .brk, ⟨_, _, _, q⟩ => exact q.elim
  | .cont, ⟨_, _, _, q⟩ => exact q.elim
end
end XX

set_option maxRecDepth 100000
set_option maxHeartbeats 4000000
namespace XX
open PySem PySem.Spec PyProof.Rows L2
section
variable {X : Cx} {CX : CXT} {k : Nat} {f C : Addr} {sp : Sp} {E : XK} {x : Str} {e : Expr} {te : TE} {p sp_ pos : Pos}
/-- C(*y): an instance made of the items of y -/
def tMakeV (K : PySem.W.Frag) (C : Addr) (sp : Sp) (E : XK) (te : TE) : TE := fun σ H Q => te σ H fun y H1 => ∃ a xs, y = V.ref a ∧ (SqT K H1 a xs ∨ SqL K H1 a xs) ∧ ∀ z dx, H1 z = none → H1 dx = none → dx ≠ z →
  sp (V.ref z :: xs) (upd (upd H1 dx (.own z)) z (.ins C dx [])) (fun v H2 => v = .non ∧ Q (.ref z) H2) E
theorem pe_makeV (M : Mk X.K C f) (F : FnR X.prog X.w X.K X.mg X.base CX k f sp) (hr : Room (k + 1) X.A) (hg : Gl X x) (hm : X.mg x = some (.ref C)) (hx : Passes CX X E) (he : PE X e te) (hd : (x == ("__debug__" : Str)) = false := by decide)
    (hst : starEach [.Starred e sp_] X.env = [(true, eval e X.env)] := by rfl) : PE X (.Call (.Name x p) [.Starred e sp_] [] pos) (tMakeV X.K C sp E te) := by
  refine ⟨fun pins s σ H Q I h => ?_⟩
  refine wpAny_Call_Name_kw (ld_glob I hg hm ?_ hd)
  refine PySem.W.callWith_S (h₀ := X.base) I.ok.mod.kin M.kp (thn (he.run pins s σ H _ I h) fun v s1 ⟨y, H1, I1, ry, a, xs, ey, hxs, q⟩ => ?_) hst
  subst ey
  obtain rfl : v = Value.ref a := ry
  exact StX.star_any I1 hxs fun us s2 I2 rv => ⟨I2.kIn, StX.run_makeR M F hr hx I2 rv q⟩
end
/-! ### a staticmethod, called by its class -/
structure SMet (K : PySem.W.Frag) (C : Addr) (mc : Value) (m : Str) (p g : Addr) : Prop where
  at_ : PySem.W.findCls K (.ref C) mc m = some (.get (.builtin "staticmethod.__get__") (.ref p) .none (.ref C))
  rc : ∃ rest, PySem.W.recIn K p "staticmethod" = some (.ref g :: rest)
  kp : PySem.W.keepIn K (.ref g) = true
/-- e.m(..), e the class at C -/
def tSMeth (C : Addr) (sp : Sp) (E : L2.St → XK) (ta : TE) (t : TA) : TE := fun σ H Q => ta σ H fun x H1 => x = .ref C ∧ t σ H1 fun vs H2 => sp vs H2 Q (E σ)
section
variable {X : Cx} {CX : CXT} {k : Nat} {C p g : Addr} {mc : Value} {fd : FuncData} {ps : List Str} {sp : Sp} {E : L2.St → XK} {o e : Expr} {es : List Expr} {m : Str} {pos apos : Pos} {ta : TE} {t : TA} {pl : Sem Bool}
theorem pe_smeth (he : PE X o ta) (r : ClX.CRead X.K C mc) (c : SMet X.K C mc m p g) (F : FnOk X.prog X.w X.K X.mg X.base CX k g fd ps sp) (bi : Binds X.K fd ps []) (hr : Room k X.A) (hx : ∀ σ, PassesAt CX X σ (E σ)) (ha : PA X (e :: es) t)
    (hst : starEach (e :: es) X.env = (false, eval e X.env) :: starEach es X.env := by rfl) (hpl : (backTo pos (starEach es X.env)).any (·.1) = false := by rfl)
    (ht : eval (.Call (.Attribute o m apos) (e :: es) [] pos) X.env = (do
      let ov ← eval o X.env
      standAt apos.atName
      let (f, first) ← holding [ov] (getMethod ov m pl)
      callWith pos f first (backTo pos (starEach (e :: es) X.env)) (backToKw pos (keywordEach [] X.env))) := by rfl) :
    PE X (.Call (.Attribute o m apos) (e :: es) [] pos) (tSMeth C sp E ta t) := by
  refine ⟨fun pins s σ H Q I h => ?_⟩
  refine PySem.W.methodCall_KW (pl := pl) (thn (he.run pins s σ H _ I h) fun u s1 ⟨x, H1, I1, rx, ex, q⟩ => ?_) ht
  subst ex
  obtain rfl : u = Value.ref C := rx
  obtain ⟨rest, hp⟩ := c.rc
  refine PySem.W.method_cls I1.kIn r.ga ?_
  refine PySem.W.cls_bind I1.kIn r.rd c.at_ ?_
  refine wpAny_call (PySem.W.sm_get (s := { s1 with toks := s1.toks + 1 }) I1.kIn hp ?_)
  refine PySem.W.handed_on rfl ?_
  have I2 := I1.tok (s1.toks + 1)
  refine PySem.W.callWith_K (h₀ := X.base) I2.ok.mod.kin c.kp (thn (ha.run pos pins _ σ H1 _ I2 q) fun us s3 ⟨vs, H2, I3, rv, q2⟩ => ⟨I3.kIn, ?_⟩) hst hpl
  exact run_at F hr I3.env0 bi (hx σ) I3 rv q2
end
end XX

set_option maxRecDepth 100000
set_option maxHeartbeats 4000000
namespace L2
open PySem PySem.Spec PyProof.Rows XX
theorem tuple_mul1 (l : Addr) (items : Array Value) (n : Nat) (dd : Option Addr) (sl : Array (Option Value)) (x : Int) (u : Tok) (c0 : (decide (x < -(2 ^ 63)) || decide (x ≥ 2 ^ 63)) = false) (c1 : (items.isEmpty || x == 1) = true) :
    Meets (Builtin.«tuple.__mul__» ⟨[.ref l, .int x u], []⟩) (fun _ R s => s.heap.get? l = some { cls := .type "tuple", dict := dd, data := .seq items n, slots := sl } ∧ R (.ok (.ret (.ref l))) s) :=
  .of_wp fun prog w A R s h => by
    obtain ⟨hp, g, d, tk, os⟩ := s
    obtain ⟨hl, h⟩ := h
    have f1 := AutoSeq1.idx_int
    wp_walk using wpAny_loadPart' hl
    repeat (first
      | (refine wpAny_ite_false (decide_eq_false (by rw [c0]; exact Bool.false_ne_true)) ?_; wp_walk using wpAny_loadPart' hl)
      | (refine wpAny_ite_true (decide_eq_true (by rw [c1])) ?_; wp_walk using wpAny_loadPart' hl))
    exact ⟨_, rfl, h⟩
theorem tuple_mul0 (l : Addr) (items : Array Value) (n : Nat) (dd : Option Addr) (sl : Array (Option Value)) (x : Int) (u : Tok) (c0 : (decide (x < -(2 ^ 63)) || decide (x ≥ 2 ^ 63)) = false) (c1 : (items.isEmpty || x == 1) = false) (c2 : (decide (x ≤ 0) || items.isEmpty) = true) :
    Meets (Builtin.«tuple.__mul__» ⟨[.ref l, .int x u], []⟩) (fun _ R s => s.heap.get? l = some { cls := .type "tuple", dict := dd, data := .seq items n, slots := sl } ∧
      R (.ok (.ret (Value.ref s.heap.objs.size))) { s with heap := s.heap.push { cls := Value.type "tuple", data := Data.seq #[] }, toks := s.toks }) :=
  .of_wp fun prog w A R s h => by
    obtain ⟨hp, g, d, tk, os⟩ := s
    obtain ⟨hl, h⟩ := h
    have f1 := AutoSeq1.idx_int
    wp_walk using wpAny_loadPart' hl
    repeat (first
      | (refine wpAny_ite_false (decide_eq_false (by rw [c0]; exact Bool.false_ne_true)) ?_; wp_walk using wpAny_loadPart' hl)
      | (refine wpAny_ite_false (decide_eq_false (by rw [c1]; exact Bool.false_ne_true)) ?_; wp_walk using wpAny_loadPart' hl)
      | (refine wpAny_ite_true (decide_eq_true (by rw [c2])) ?_; wp_walk using wpAny_loadPart' hl))
    exact ⟨_, rfl, h⟩
theorem same_laid {H : Hp} {q : Addr} {o : HO} (e : H q = none) : Same H (upd H q o) := fun b u hb => by
  have hne : b ≠ q := fun z => by
    rw [z, e] at hb
    cases hb
  rw [upd_ne hne]
  exact hb
section
variable {X : Cx}
/-- t * k for any k up to 1000 -/
def rRepA (K : PySem.W.Frag) : R2 := fun x y H Q => ∃ l k xs, x = .ref l ∧ y = .int k ∧ SqT K H l xs ∧ -1000 ≤ k ∧ k ≤ 1000 ∧ xs.length ≤ 1000 ∧ ∀ p G, Same H G → SqT K G p (List.replicate k.toNat xs).flatten → Q (.ref p) G
theorem op_repA : OpR X (binaryOp .Mult) (rRepA X.K) := by
  intro pins s σ H x y v u Q I rx ry h
  obtain ⟨l, k, xs, rfl, rfl, hT, h1, h2, hz, q⟩ := h
  by_cases hb : xs ≠ [] ∧ 2 ≤ k
  · exact op_repT pins s σ H _ _ v u Q I rx ry ⟨l, k, xs, rfl, rfl, hT, hb.1, hb.2, h2, hz, fun p hp => q p _ (same_laid hp) (SqT.of upd_same)⟩
  cases rx
  obtain ⟨t, rfl⟩ := ry
  obtain ⟨its, r, ⟨⟨cls, dd, data, sl⟩, ho, hc, n, hd⟩, hs⟩ := I.tuple hT
  simp only at hc hd
  subst hc hd
  have c0 : (decide (k < -(2 ^ 63)) || decide (k ≥ 2 ^ 63)) = false := by
    rw [decide_eq_false (by omega), decide_eq_false (by omega)] <;> rfl
  by_cases c1 : (its.toArray.isEmpty || k == 1) = true
  · refine wpAny_binaryOp_repeat_ref (T := "tuple") (U := "int") (by decide) ⟨_, ho, rfl⟩ (fun s' => typeIs_int s' k t) noFill_tuple_mul F.fills_int_mul F.slot_int_rmul repeat_tuple F.slot_int_index.lookup
      (call_meets F.slot_int_rmul (typeIs_int s k t) F.entry_int_rmul (F.args_int_rmul_2 _ _) (int_rmul_tuple k t l its.toArray n dd sl)
        ⟨ho, rfl, ⟨_, ho, rfl⟩, call_meets F.slot_tuple_mul ⟨_, ho, rfl⟩ F.entry_tuple_mul (F.args_tuple_mul_2 _ _) (tuple_mul1 l its.toArray n dd sl k t c0 c1) ⟨ho, ?_⟩⟩)
    refine ⟨.ref l, H, I, rfl, q l H (Same.refl _) ?_⟩
    have e : (List.replicate k.toNat xs).flatten = xs := by
      rcases Bool.or_eq_true_iff.mp c1 with e | e
      · have hi : its = [] := by
          cases its with
          | nil => rfl
          | cons a b => cases e
        subst hi
        cases r
        simp
      · have : k = 1 := by simpa using e
        subst this
        simp
    rw [e]
    exact hT
  · have c1 : (its.toArray.isEmpty || k == 1) = false := by simpa using c1
    have hne : xs ≠ [] := fun e => by
      subst e
      cases r
      simp at c1
    have hk1 : k ≠ 1 := fun e => by
      subst e
      simp at c1
    have hk : k ≤ 0 := by
      have : ¬ 2 ≤ k := fun e => hb ⟨hne, e⟩
      omega
    refine wpAny_binaryOp_repeat_ref (T := "tuple") (U := "int") (by decide) ⟨_, ho, rfl⟩ (fun s' => typeIs_int s' k t) noFill_tuple_mul F.fills_int_mul F.slot_int_rmul repeat_tuple F.slot_int_index.lookup
      (call_meets F.slot_int_rmul (typeIs_int s k t) F.entry_int_rmul (F.args_int_rmul_2 _ _) (int_rmul_tuple k t l its.toArray n dd sl)
        ⟨ho, rfl, ⟨_, ho, rfl⟩, call_meets F.slot_tuple_mul ⟨_, ho, rfl⟩ F.entry_tuple_mul (F.args_tuple_mul_2 _ _) (tuple_mul0 l its.toArray n dd sl k t c0 c1 (by rw [decide_eq_true hk]; rfl)) ⟨ho, ?_⟩⟩)
    have e : (List.replicate k.toNat xs).flatten = [] := by
      rw [show k.toNat = 0 by omega]
      rfl
    refine ⟨.ref s.heap.objs.size, _, I.laid (t' := s.toks) (o := .tup []) (fun b ob q => Heap.get?_push_of_some _ q) (Nat.le_refl _) ?_, rfl, q _ _ (same_laid (I.hok.fresh (Nat.le_refl _))) (by rw [e]; exact SqT.of upd_same)⟩
    exact ⟨by simp, [], .nil, IsTup.new _ _⟩
end
end L2

set_option maxRecDepth 100000
set_option maxHeartbeats 4000000
namespace XX
open PySem PySem.Spec PyProof.Rows L2
/-! ### an instance made by a positional promise, where the call may raise at the slots -/
section
variable {X : Cx} {CX : CXT} {k : Nat} {f C : Addr} {sp : Sp} {x : Str} {e : Expr} {es : List Expr} {te : TE} {t : TA} {p sp_ pos : Pos}
theorem run_makeRS {J : L2.St} {hp : Hp} {sh : Shared} {pn : List (Addr × Obj)} {D : XK} {R : VK} {ys : List V} {ws : List Value} (M : Mk X.K C f) (F : FnR X.prog X.w X.K X.mg X.base CX k f sp) (room : Room (k + 1) X.A) (ps : PassesAt CX X J D) (I : Inv X pn J hp sh) (rl : Vals ys ws)
    (q : ∀ z dz, hp z = none → hp dz = none → dz ≠ z → sp (V.ref z :: ys) (upd (upd hp dz (.own z)) z (.ins C dz [])) (fun v h2 => v = .non ∧ R (.ref z) h2) D) :
    wpAny (model X.prog X.w) X.A (call (.ref C) ws) (EP X pn J R) X.xe sh := by
  have fr : ∀ {b : Nat}, sh.heap.objs.size ≤ b → hp b = none := fun hle => I.hok.fresh hle
  have run := F _ X.stack _ _ (Value.ref (sh.heap.objs.size + 1) :: ws) _ _ D (room.make C ws []) ((Inv.made (C := C) I).env0.make C ws []) (Paired.cons (F := RelV) (show RelV (.ref (sh.heap.objs.size + 1)) (Value.ref (sh.heap.objs.size + 1)) from rfl) rl) (q _ _ (fr (Nat.le_succ _)) (fr (Nat.le_refl _)) (Nat.ne_of_lt (Nat.lt_succ_self _)))
  refine wpAny_call (make_map (f := f) I.kIn M.makes M.init (beq_iff_eq.mp M.fn) (codeAny_mono run fun rr s' z => ?_))
  match rr, z with
  | .error er, z => exact ps pn _ _ er s' (Inv.made (C := C) I) z
  | .ok (.ret u), z =>
    obtain ⟨v, h2, I3, rv, ev, q3⟩ := (Inv.made (C := C) I).after z
    subst ev
    exact ⟨rv, ⟨.ref (sh.heap.objs.size + 1), h2, I3, rfl, q3⟩⟩
  | .ok .next, z => exact False.elim z
  | .ok .brk, z => exact False.elim z
  | .ok .cont, z => exact False.elim z
def tMakeVS (K : PySem.W.Frag) (C : Addr) (sp : Sp) (D : L2.St → XK) (te : TE) : TE := fun σ H Q => te σ H fun y H1 => ∃ a xs, y = V.ref a ∧ (SqT K H1 a xs ∨ SqL K H1 a xs) ∧ ∀ z dx, H1 z = none → H1 dx = none → dx ≠ z →
  sp (V.ref z :: xs) (upd (upd H1 dx (.own z)) z (.ins C dx [])) (fun v H2 => v = .non ∧ Q (.ref z) H2) (D σ)
theorem pe_makeVS {D : L2.St → XK} (M : Mk X.K C f) (F : FnR X.prog X.w X.K X.mg X.base CX k f sp) (room : Room (k + 1) X.A) (ps : ∀ σ, PassesAt CX X σ (D σ)) (hg : Gl X x) (hm : X.mg x = some (.ref C)) (he : PE X e te) (hd : (x == ("__debug__" : Str)) = false := by decide)
    (hst : starEach [.Starred e sp_] X.env = [(true, eval e X.env)] := by rfl) : PE X (.Call (.Name x p) [.Starred e sp_] [] pos) (tMakeVS X.K C sp D te) :=
  ⟨fun pn sh J hp R I q => wpAny_Call_Name_kw (ld_glob I hg hm (PySem.W.callWith_S (h₀ := X.base) I.ok.mod.kin M.kp (thn (he.run pn sh J hp _ I q) fun v s1 ⟨y, h1, I1, ry, a, xs, ey, hxs, q⟩ => by
    subst ey
    cases (show v = Value.ref a from ry)
    exact StX.star_any I1 hxs fun us s2 I2 rv => ⟨I2.kIn, run_makeRS M F room (ps J) I2 rv q⟩) hst) hd)⟩
def tMakeRS (C : Addr) (sp : Sp) (D : L2.St → XK) (t : TA) : TE := fun σ H Q => t σ H fun vs H1 => ∀ z dx, H1 z = none → H1 dx = none → dx ≠ z →
  sp (V.ref z :: vs) (upd (upd H1 dx (.own z)) z (.ins C dx [])) (fun v H2 => v = .non ∧ Q (.ref z) H2) (D σ)
theorem pe_makeRS {D : L2.St → XK} (M : Mk X.K C f) (F : FnR X.prog X.w X.K X.mg X.base CX k f sp) (room : Room (k + 1) X.A) (ps : ∀ σ, PassesAt CX X σ (D σ)) (hg : Gl X x) (hm : X.mg x = some (.ref C)) (ha : PA X (e :: es) t) (hd : (x == ("__debug__" : Str)) = false := by decide)
    (hst : starEach (e :: es) X.env = (false, eval e X.env) :: starEach es X.env := by rfl) (hpl : (backTo pos (starEach es X.env)).any (·.1) = false := by rfl) : PE X (.Call (.Name x p) (e :: es) [] pos) (tMakeRS C sp D t) :=
  ⟨fun pn sh J hp R I q => wpAny_Call_Name_kw (ld_glob I hg hm (PySem.W.callWith_K (h₀ := X.base) I.ok.mod.kin M.kp (thn (ha.run pos pn sh J hp _ I q) fun us s1 ⟨vs, h1, I1, r, q⟩ => ⟨I1.kIn, run_makeRS M F room (ps J) I1 r q⟩) hst hpl) hd)⟩
end
end XX

set_option maxRecDepth 100000
set_option maxHeartbeats 4000000
namespace XX
open PySem PySem.Spec PyProof.Rows L2
section
variable {X : Cx} {CX : CXT} {k : Nat} {C : Addr} {sp : Sp}
/-- x * b, b an instance of C, x an int, a bool, or of a built-in type without number slots -/
def tMulA (K : PySem.W.Frag) (C : Addr) (sp : Sp) (E : L2.St → XK) (ta tb : TE) : TE := fun σ H Q => ta σ H fun x H1 => tb σ H1 fun y H2 => ∃ b dy gs, y = .ref b ∧ H2 b = some (.ins C dy gs) ∧ (((∃ i, x = .int i) ∨ ∃ t, x = .bl t) ∨ ∃ T, TyX K H2 x (.type T) ∧ OpN K .Mult T) ∧ sp [y, x] H2 Q (E σ)
theorem pe_mulA {E : L2.St → XK} {ta tb : TE} {a b : Expr} {pos : Pos} (M : MtC X.prog X.w X.K X.mg X.base CX k C "__rmul__" ["self", "other"] sp) (hs : ∃ f0 : Addr, PySem.W.findIn X.K (.ref C) "__mul__" = some (some (.ref f0))) (hc : PySem.W.selfFirst X.K C = true)
    (hi : PySem.W.subIn X.K (.ref C) (.type "int") = some false) (hb : PySem.W.subIn X.K (.ref C) (.type "bool") = some false) (hr : Room k X.A) (hx : ∀ σ, PassesAt CX X σ (E σ)) (ha : PE X a ta) (hb' : PE X b tb) : PE X (.BinOp a .Mult b pos) (tMulA X.K C sp E ta tb) := by
  refine ⟨fun pins s σ H Q I h => ?_⟩
  refine wpAny_BinOp (binT ha hb' I h fun v u s2 x y H2 I2 rx ry q => ?_)
  obtain ⟨b', dx, fs, rfl, ea, hT, q2⟩ := q
  obtain rfl : u = Value.ref b' := ry
  obtain ⟨f, fd, F, hm, bi⟩ := M.ex
  obtain ⟨f0, hs⟩ := hs
  obtain ⟨mA, J, _⟩ := ins_get I2.hok ea
  have ho := J.obj
  obtain ⟨od, J, _⟩ := J.look
  obtain ⟨m, hF⟩ := I2.fr
  have run := wpAny_mono (run_at F hr I2.env0 bi (hx σ) I2 (us := [.ref b', v]) (vs := [.ref b', x]) (.cons rfl (.cons rx .nil)) q2) (fun w s' q => by
    obtain ⟨z, H', I', rz, q⟩ := q
    exact rel_back (Q := EP X pins σ Q) rz ⟨z, H', I', rz, q⟩) fun _ _ e => e
  rcases hT with (⟨i, rfl⟩ | ⟨t, rfl⟩) | ⟨T, hT, fo, ro, h3, h4, h5⟩
  · obtain ⟨tk, rfl⟩ := rx
    exact PySem.W.own_binD (op := .Mult) (T := "int") hF I2.ok.mod.kin J (PySem.typeIs_int s2 i tk) hc hs hm.at_ hm.fn PySem.F.fills_int_mul PySem.F.slot_int_mul hi
      (fun R q => call_meets PySem.F.slot_int_mul (PySem.typeIs_int s2 i tk) PySem.F.entry_int_mul (PySem.F.args_int_mul_2 _ _) (int___mul___int_ins i tk b' C dx) ⟨ho, q⟩) run
  · cases rx
    exact PySem.W.own_binD (op := .Mult) (T := "bool") hF I2.ok.mod.kin J (PySem.typeIs_bool s2 t) hc hs hm.at_ hm.fn PySem.F.fills_bool_mul PySem.F.slot_bool_mul hb
      (fun R q => call_meets PySem.F.slot_bool_mul (PySem.typeIs_bool s2 t) PySem.F.entry_int_mul (PySem.F.args_int_mul_2 _ _) (int___mul___bool_ins t b' C dx) ⟨ho, q⟩) run
  · obtain ⟨Pk, Z, hP, _⟩ := kit_of I2 rx hT
    exact PySem.W.own_binR (op := .Mult) hF I2.ok.mod.kin J (Z.ty _ _ I2.kIn hP) hc hs hm.at_ hm.fn h3 h4 h5 run
/-! ### the same where K is told -/
theorem pe_mulAK {E : L2.St → XK} {ta tb : TE} {a b : Expr} {pos : Pos} (K : PySem.W.Frag) (e : X.K = K) (M : MtC X.prog X.w K X.mg X.base CX k C "__rmul__" ["self", "other"] sp) (hs : ∃ f0 : Addr, PySem.W.findIn K (.ref C) "__mul__" = some (some (.ref f0))) (hc : PySem.W.selfFirst K C = true)
    (hi : PySem.W.subIn K (.ref C) (.type "int") = some false) (hb : PySem.W.subIn K (.ref C) (.type "bool") = some false) (hr : Room k X.A) (hx : ∀ σ, PassesAt CX X σ (E σ)) (ha : PE X a ta) (hb' : PE X b tb) : PE X (.BinOp a .Mult b pos) (tMulA K C sp E ta tb) := by
  subst e
  exact pe_mulA M hs hc hi hb hr hx ha hb'
theorem pe_opIK {op : Operator} {E : L2.St → XK} {ta tb : TE} {a b : Expr} {pos : Pos} (K : PySem.W.Frag) (e : X.K = K) (M : MtC X.prog X.w K X.mg X.base CX k C (PySem.dunder op.info.2) ["self", "other"] sp) (O : OpC K C op) (hr : Room k X.A) (hx : ∀ σ, PassesAt CX X σ (E σ)) (ha : PE X a ta) (hb : PE X b tb) : PE X (.BinOp a op b pos) (tOpI K C op sp E ta tb) := by
  subst e
  exact pe_opI M O hr hx ha hb
theorem pe_opRK {op : Operator} {E : L2.St → XK} {ta tb : TE} {a b : Expr} {pos : Pos} (K : PySem.W.Frag) (e : X.K = K) (M : MtC X.prog X.w K X.mg X.base CX k C (dunderR op.info.2) ["self", "other"] sp) (hs : ∃ f0 : Addr, PySem.W.findIn K (.ref C) (PySem.dunder op.info.2) = some (some (.ref f0))) (hc : PySem.W.selfFirst K C = true) (hr : Room k X.A) (hx : ∀ σ, PassesAt CX X σ (E σ)) (ha : PE X a ta) (hb : PE X b tb) : PE X (.BinOp a op b pos) (tOpR K C op sp E ta tb) := by
  subst e
  exact pe_opR M hs hc hr hx ha hb
end
end XX

set_option maxRecDepth 100000
set_option maxHeartbeats 4000000
namespace PySem.SeqAt
open AutoSeq1 (wpAny_loadPart')
open MeetsSeq MeetsSeq2 MeetsSeq3 SeqRoads2
/-! ### != of lists whose items are equal, one by one -/
section
variable {prog : Program} {w : World} {x y : Addr} {us ws : Array Value} {m1 m2 : Nat} {d1 d2 : Option Addr} {s1 s2 : Array (Option Value)}
def ListNe (prog : Program) (w : World) (x y : Addr) (us ws : Array Value) (m1 m2 : Nat) (d1 d2 : Option Addr) (s1 s2 : Array (Option Value)) (A : Around) (R : Result → Shared → Prop) (s : Shared) : Prop :=
  s.heap.get? x = some ⟨.type "list", d1, .seq us m1, s1⟩ ∧ s.heap.get? y = some ⟨.type "list", d2, .seq ws m2, s2⟩ ∧ (∀ j (a : j < us.size) (b : j < ws.size), EqP prog w A.in1 s us[j] ws[j] true) ∧ R (.ok (.ret (.bool false))) s
theorem neP_loop (hz : us.size = ws.size) (k : Nat) : ∀ i : Nat, us.size - i = k → MeetsIn prog w (Builtin.«list.__eq__.loop» ⟨[.ref x, .ref y, rawInt i, rawInt 3], []⟩) (ListNe prog w x y us ws m1 m2 d1 d2 s1 s2) := by
  induction k with
  | zero =>
    intro i hi A R s h
    obtain ⟨hp, g, d, tk, os⟩ := s
    obtain ⟨hx, hy, he, q⟩ := h
    wp_walk using wpAny_loadPart' hx, wpAny_loadPart' hy
    have e1 : us[((i : Nat) : Int).toNat]? = none := Array.getElem?_eq_none (by rw [Int.toNat_natCast]; omega)
    have e2 : ws[((i : Nat) : Int).toNat]? = none := Array.getElem?_eq_none (by rw [Int.toNat_natCast]; omega)
    rw [e1, e2]
    wp_walk using wpAny_loadPart' hx, wpAny_loadPart' hy
    have e3 : (us.size != ws.size) = false := by rw [hz, bne_self_eq_false]
    show R (.ok (.ret (.bool (us.size != ws.size)))) _
    rw [e3]
    exact q
  | succ k ih =>
    intro i hi A R s h
    obtain ⟨hp, g, d, tk, os⟩ := s
    obtain ⟨hx, hy, he, q⟩ := h
    wp_walk using wpAny_loadPart' hx, wpAny_loadPart' hy
    have l1 : i < us.size := by omega
    have l2 : i < ws.size := by omega
    have e1 : us[((i : Nat) : Int).toNat]? = some us[i] := by rw [Int.toNat_natCast]; exact Array.getElem?_eq_getElem l1
    have e2 : ws[((i : Nat) : Int).toNat]? = some ws[i] := by rw [Int.toNat_natCast]; exact Array.getElem?_eq_getElem l2
    rw [e1, e2]
    refine wpAny_bind (he i l1 l2 _ _ ?_)
    wp_walk
    have e3 : ((i : Int) + 1) = ((i + 1 : Nat) : Int) := rfl
    rw [e3]
    refine ⟨plainId_quiet plain_eq_loop _, codeAny_builtin entry_eq_loop ?_⟩
    rw [Around.under_plainId plain_eq_loop _]
    exact ih (i + 1) (by omega) A R _ ⟨hx, hy, he, q⟩
theorem neP_list (hz : us.size = ws.size) : MeetsIn prog w (Builtin.«list.__ne__» ⟨[.ref x, .ref y], []⟩) (ListNe prog w x y us ws m1 m2 d1 d2 s1 s2) := by
  intro A R s h
  obtain ⟨hp, g, d, tk, os⟩ := s
  obtain ⟨hx, hy, he, q⟩ := h
  have f3 := AutoSeq1.sub_list_list
  have hne : ¬ (us.size != ws.size) = true := by rw [hz, bne_self_eq_false]; exact Bool.false_ne_true
  wp_walk using wpAny_loadPart' hx, wpAny_loadPart' hy
  refine ⟨plainId_quiet plain_eq_loop _, codeAny_builtin entry_eq_loop ?_⟩
  rw [Around.under_plainId plain_eq_loop _]
  exact neP_loop hz _ 0 rfl A R _ ⟨hx, hy, he, q⟩
end
theorem neP_lists {prog : Program} {w : World} {A : Around} {s : Shared} {x y : Addr} {us ws : Array Value} {E Q : Value → Shared → Prop} (hx : s.heap.IsList x us) (hy : s.heap.IsList y ws) (hz : us.size = ws.size) (hu : A.units < cLine)
    (he : ∀ j (a : j < us.size) (b : j < ws.size), EqP prog w A.in1 s us[j] ws[j] true) (q : Q (.bool false) s) : wpAny (model prog w) A (richCompare .NotEq (.ref x) (.ref y)) Q E s := by
  obtain ⟨⟨c1, d1, k1, s1⟩, o1, t1, m1, e1⟩ := id hx
  obtain ⟨⟨c2, d2, k2, s2⟩, o2, t2, m2, e2⟩ := id hy
  simp only at t1 e1 t2 e2
  subst t1 e1 t2 e2
  have ta : s.TypeIs (.ref x) "list" := ⟨_, o1, rfl⟩
  have tb : s.TypeIs (.ref y) "list" := ⟨_, o2, rfl⟩
  refine wpAny_richCompare_same_room (op := .NotEq) ta tb F.slot_list_ne (call_meetsIn F.slot_list_ne ta F.entry_list_ne (F.args_list_ne_2 _ _) (neP_list hz) ⟨o1, o2, he, ?_⟩) hu
  exact ⟨(fun z => nomatch z), q⟩
end PySem.SeqAt
namespace XX
open PySem PySem.Spec PyProof.Rows L2
/-- != of two lists of equal items of nesting below n: texts, numbers, lists and dicts -/
def rNeV (K : PySem.W.Frag) : R2 := fun x y H Q => ∃ (n : Nat) (a b : Addr) (xs ys : List V), n ≤ 60 ∧ x = .ref a ∧ y = .ref b ∧ SqL K H a xs ∧ SqL K H b ys ∧ Paired (EqV K H n) xs ys ∧ Q (.bl false) H
theorem op_neV {X : Cx} (hu : X.A.units + 64 < cLine) : OpR X (compareOp .NotEq) (rNeV X.K) := by
  intro pins s σ H x y v u Q I rx ry h
  obtain ⟨n, a, b, xs, ys, hn, rfl, rfl, ha, hb, hp, q⟩ := h
  cases (show v = Value.ref a from rx)
  cases (show u = Value.ref b from ry)
  obtain ⟨us, r1, p1, _⟩ := I.list ha
  obtain ⟨ws, r2, p2, _⟩ := I.list hb
  have hz : us.toArray.size = ws.toArray.size := by
    rw [List.size_toArray, List.size_toArray, ← r1.length, ← r2.length]
    exact Paired.length hp
  refine SeqAt.neP_lists p1.isList p2.isList hz (by omega) (fun j h1 h2 => ?_) ⟨.bl false, H, I, rfl, q⟩
  have k := items_run (fun x y v u e r r' => eqV_run I n X.A.in1 (by show X.A.units + 1 + n < cLine; omega) x y v u e r r') hp r1 r2 j (by simpa using h1) (by simpa using h2)
  simpa using k
theorem op_neVK {X : Cx} (K : PySem.W.Frag) (e : X.K = K) (hu : X.A.units + 64 < cLine) : OpR X (compareOp .NotEq) (rNeV K) := by
  subst e
  exact op_neV hu
end XX

set_option maxRecDepth 100000
set_option maxHeartbeats 4000000
namespace XX
open PySem PySem.Spec PyProof.Rows L2
/-! ### in comprehensions: rules that want K told -/
theorem op_neDK {X : Cx} (K : PySem.W.Frag) (e : X.K = K) (hu : X.A.units + 64 < cLine) : OpR X (compareOp .NotEq) (rNeD K) := by
  subst e
  exact op_neD hu
theorem op_eqDK {X : Cx} (K : PySem.W.Frag) (e : X.K = K) (hu : X.A.units + 64 < cLine) : OpR X (compareOp .Eq) (rEqD K) := by
  subst e
  exact op_eqD hu
/-- isinstance of data, or of an empty dict -/
def rIsE (T : String) (K : PySem.W.Frag) : List V → Hp → VK → Prop := fun xs H Q => ∃ (x : V) (d : PyData), xs = [x, .ty T] ∧ DpE K H x d ∧ Q (.bl (isTy (tyOf d) T)) H
theorem call_isE {X : Cx} {T : String} (hT : knownTy T) : CallR X (.builtin "isinstance") (rIsE T X.K) := CallR.imp call_isi fun xs H Q ⟨x, d, e, h, q⟩ => ⟨x, .ty T, _, _, _, e, .ty T, ty_dpE h, kit_is d hT, q⟩
end XX

set_option maxRecDepth 100000
set_option maxHeartbeats 4000000
namespace XX
open PySem PySem.Spec PyProof.Rows L2
/-! ### an instance made of nothing, by a positional promise -/
section
variable {X : Cx} {CX : CXT} {k : Nat} {f C : Addr} {sp : Sp} {x : Str} {p pos : Pos}
theorem pe_makeRS0 {D : L2.St → XK} (M : Mk X.K C f) (F : FnR X.prog X.w X.K X.mg X.base CX k f sp) (room : Room (k + 1) X.A) (ps : ∀ σ, PassesAt CX X σ (D σ)) (hg : Gl X x) (hm : X.mg x = some (.ref C)) (hd : (x == ("__debug__" : Str)) = false := by decide) : PE X (.Call (.Name x p) [] [] pos) (tMakeRS C sp D tNil) :=
  ⟨fun pn sh J hp R I q => wpAny_Call_Name_kw (ld_glob I hg hm (PySem.W.callWith_K0 I.kIn M.kp (run_makeRS (ws := []) M F room (ps J) I .nil q)) hd)⟩
end
end XX

set_option maxRecDepth 100000
set_option maxHeartbeats 4000000
namespace XX
open PySem PySem.Spec PyProof.Rows L2
/-! ### dict comprehensions whose keys are tuples -/
section
variable {X : Cx}
/-- D[b] = v by a comprehension, b a tuple of ints and texts -/
theorem put_tup {pn : List (Addr × Obj)} {J : L2.St} {hp : Hp} {sh : Shared} {Er : Value → Shared → Prop} {D b : Addr} {kt : List (List Key × V)} {key : List Key} {val : V} {u r : Value} {R : Unit → Shared → Prop} (units : X.A.units < cLine) (I : Inv X pn J hp sh)
    (atD : hp D = some (.dT kt)) (atb : hp b = some (.tup (key.map kV))) (few : kt.length < sizeLine) (ru : RelV (.ref b) u) (rv : RelV val r) (go : ∀ sh', Inv X pn J (upd hp D (.dT (putK kt key val))) sh' → R () sh') : wpAny (model X.prog X.w) X.A (dictSet D u r) R Er sh := by
  cases ru
  obtain ⟨_, low, xs, rel, dd⟩ := dt_of I.hok atD
  have e0 := Paired.length rel
  have e1 := length_putK kt key val
  refine wpAny_dictSet_heap (hsz := by omega) (show (tupleKind (mixKind X.prog X.w)).room X.A from units) (key_of I.hok atb) dd fun hx ddx same => go _ ?_
  obtain ⟨ob, es, ep, ho, p2, p3, p4, _, p5⟩ := ddx
  refine d_write I (by rw [atD]; exact True.intro) same ⟨ob, ho⟩ ⟨by omega, low, _, (rel.put key atb rv).keeps fun c ys ec => ?_, ob, es, ep, ho, p2, p3, p4, p5⟩
  exact (upd_ne (ne_of ec atD (fun z => nomatch z))).trans ec
/-- the turns of such a comprehension, D the new dict -/
def DcT (J : It) (g : TG) (tt : TT) (tk tv : TE) (vs : List Nat) (σ : L2.St) (H1 : Hp) (Q : VK) : Prop := ∀ D, H1 D = none → ∃ W : Nat → Nat → Hp → Prop, (∃ m, W 0 m (upd H1 D (.dT []))) ∧ ∀ i m H, W i m H →
  (J.stop i H ∧ Q (.ref D) H) ∨ (J.go i H ∧ ∃ Nx : Hp → Prop, (∀ H', Nx H' → ∃ m', m' < m ∧ W (i + 1) m' H') ∧ ∀ x H', J.yld i H x H' → g x (wipe σ vs) H' fun σ2 H2 => wipe σ2 vs = wipe σ vs ∧ tt σ2 H2 fun b H3 =>
    if b = true then tk σ2 H3 fun y H4 => tv σ2 H4 fun z H5 => ∃ kvs k b, y = .ref b ∧ H5 D = some (.dT kvs) ∧ H5 b = some (.tup (k.map kV)) ∧ kvs.length < sizeLine ∧ Nx (upd H5 D (.dT (putK kvs k z))) else Nx H3)
def tDcT (wi : TI) (g : TG) (tt : TT) (tk tv : TE) (vs : List Nat) : TE := fun σ H Q => wi σ H fun J H1 => DcT J g tt tk tv vs σ H1 Q
theorem tDcT_eq {wi : TI} {g : TG} {tt : TT} {tk tv : TE} {vs : List Nat} {σ : L2.St} {H : Hp} {Q : VK} : tDcT wi g tt tk tv vs σ H Q = wi σ H (fun J H1 => DcT J g tt tk tv vs σ H1 Q) := rfl
theorem dct_it {J : It} {n : Nat} {G : Hp → Prop} {Y : Nat → Hp → V → Hp → Prop} (w : Walk J n G Y) {g : TG} {tt : TT} {tk tv : TE} {vs : List Nat} {σ : L2.St} {H1 : Hp} {Q : VK} (P : Addr → Nat → Hp → Prop) (h0 : ∀ D, H1 D = none → P D 0 (upd H1 D (.dT [])))
    (hG : ∀ D i H, i ≤ n → P D i H → G H)
    (hs : ∀ D i x H H', H1 D = none → i < n → P D i H → Y i H x H' → g x (wipe σ vs) H' fun σ2 H2 => wipe σ2 vs = wipe σ vs ∧ tt σ2 H2 fun b H3 =>
      if b = true then tk σ2 H3 fun y H4 => tv σ2 H4 fun z H5 => ∃ kvs k b, y = .ref b ∧ H5 D = some (.dT kvs) ∧ H5 b = some (.tup (k.map kV)) ∧ kvs.length < sizeLine ∧ P D (i + 1) (upd H5 D (.dT (putK kvs k z))) else P D (i + 1) H3)
    (hd : ∀ D H, H1 D = none → P D n H → Q (.ref D) H) : DcT J g tt tk tv vs σ H1 Q := by
  intro D hD
  refine ⟨fun i m H => m = n - i ∧ i ≤ n ∧ P D i H, ⟨n, by simp, Nat.zero_le _, h0 D hD⟩, ?_⟩
  rintro i m H ⟨rfl, hi, p⟩
  have q := hG D i H hi p
  by_cases hlt : i < n
  · exact .inr ⟨w.goes i H hlt q, P D (i + 1), fun H' p' => ⟨n - (i + 1), by omega, rfl, hlt, p'⟩, fun x H' y => hs D i x H H' hD hlt p (w.yields i H x H' hlt q y)⟩
  · have e : i = n := by omega
    subst e
    exact .inl ⟨w.stops H q, hd D H hD p⟩
/-- what a block's frame may not be told of, kept while the block runs -/
theorem still {sh0 : Shared} {hp0 : Hp} {scope : Scope} {ce : Env} {fp : List Addr} {J : L2.St} {hp : Hp} {sh : Shared} (I : Inv (X.blk sh0 hp0 scope ce fp) [] J hp sh) (free : ∀ b ∈ fp, hp b = none) : ∀ b ∈ fp, FpOk (X.blk sh0 hp0 scope ce fp) [] hp b := fun b hb =>
  ⟨free b hb, (I.ok.exf b hb).1, I.ok.exfs b hb, .inl hb, (I.ok.exf b hb).2, fun p hp' => absurd (show p ∈ ([] : List (Addr × Obj)) ++ [] from hp') (by simp)⟩
/-- {k: v for target in iter if ..}, the keys tuples -/
theorem pe_dcT {kx vx tg iter : Expr} {ifs : List Expr} {scope : Scope} {own : List (Str × Nat)} {pos : Pos} {wi : TI} {g : TG} {tt : TT} {tk tv : TE} (units : X.A.units < cLine) (calm : X.calm = true) (nd : X.N.Nodup) (pi : PI X tg iter wi) (blk : BlkOk X.N X.env.scope scope own)
    (pg : ∀ (sh : Shared) (hp : Hp) (C : Addr) (cl : List (Str × Addr)) (fp : List Addr), PG (X.blk sh hp scope (compEnvC scope cl C X.env) fp) tg g) (pt : ∀ (sh : Shared) (hp : Hp) (C : Addr) (cl : List (Str × Addr)) (fp : List Addr), PTs (X.blk sh hp scope (compEnvC scope cl C X.env) fp) ifs tt)
    (pk : ∀ (sh : Shared) (hp : Hp) (C : Addr) (cl : List (Str × Addr)) (fp : List Addr), PE (X.blk sh hp scope (compEnvC scope cl C X.env) fp) kx tk) (pv : ∀ (sh : Shared) (hp : Hp) (C : Addr) (cl : List (Str × Addr)) (fp : List Addr), PE (X.blk sh hp scope (compEnvC scope cl C X.env) fp) vx tv)
    (fold : ∀ x, foldedSetIterable iter X.env x = pure x := by intro _; rfl) : PE X (.DictComp kx vx [⟨tg, iter, ifs, 0⟩] scope pos) (tDcT wi g tt tk tv (own.map (·.2))) := by
  refine ⟨fun pn sh J hp R I q => ?_⟩
  rw [arm_eval_DictComp]
  have cellsThere : ∀ nm ∈ scope.names, nm.2 = .free → ∃ c, X.env.cells.lookup nm.1 = some c := fun nm hn ef => (blk.free nm hn ef).elim (fun z => I.ok.has _ (.inl z)) fun z => I.ok.has _ (.inr z)
  refine wpAny_comprehension_free (use := none) rfl fold (closure_ok cellsThere) blk.kind (fun nm hn el => (blk.uniq nm hn).trans (congrArg some el)) (thn (pi.run pn sh J hp _ I q) fun xv sh1 hx => thn hx fun itv sh2 h2 => ?_)
  obtain ⟨it, fp, tn, Jt, hp2, rfl, I2, T, st2, ft, turns⟩ := h2
  refine wpAny_newObj_type (newEnv_comp ?_)
  obtain ⟨D, eD⟩ : ∃ D, D = sh2.heap.objs.size := ⟨_, rfl⟩
  have freeD : hp2 D = none := I2.hok.fresh (by rw [eD]; exact Nat.le_refl _)
  obtain ⟨W, ⟨m0, w0⟩, turn⟩ := turns D freeD
  obtain ⟨sh3, e3⟩ : ∃ sh3 : Shared, sh3 = { sh2 with heap := sh2.heap.push { cls := .type "dict", data := .dict #[] } } := ⟨_, rfl⟩
  have heap3 : sh3.heap = sh2.heap.push { cls := .type "dict", data := .dict #[] } := by rw [e3]
  obtain ⟨hp3, eh3⟩ : ∃ hp3 : Hp, hp3 = upd hp2 D (.dT []) := ⟨_, rfl⟩
  have I3 : Inv X pn J hp3 sh3 := by
    rw [e3, eh3, eD]
    exact I2.laid (t' := sh2.toks) (fun b o e => Heap.get?_push_of_some _ e) (Nat.le_refl _) (dt_empty sh2.heap I2.big)
  have frame : ∀ b ∈ fp, FpOk X pn hp3 b ∧ b < sh3.heap.objs.size := fun b hb => by
    obtain ⟨o, ob, _⟩ := T.obj _ _ st2 b hb
    have lt := Heap.lt_size ob
    refine ⟨⟨?_, (ft b hb).2⟩, by rw [heap3, Heap.size_push]; exact Nat.lt_succ_of_lt lt⟩
    rw [eh3, upd_ne (by rw [eD]; exact Nat.ne_of_lt lt)]
    exact (ft b hb).1
  have nofp : ∀ b ∈ fp, hp3 b = none := fun b hb => (frame b hb).1.1
  have I4 := block_start I3 blk nd frame
  obtain ⟨cl, ecl⟩ : ∃ cl, cl = cellsFrom (sh3.heap.objs.size + 1) scope.names (cloFrom X.env.cells scope.names []) := ⟨_, rfl⟩
  obtain ⟨L, eL⟩ : ∃ L, L = sh3.heap.objs.size := ⟨_, rfl⟩
  rw [← ecl, ← eL] at I4
  have qg := pg sh3 hp3 L cl fp
  have qt := pt sh3 hp3 L cl fp
  have qk := pk sh3 hp3 L cl fp
  have qv := pv sh3 hp3 L cl fp
  have cL : (compEnvC scope cl L X.env).locals = L := rfl
  obtain ⟨sh4, e4⟩ : ∃ sh4 : Shared, sh4 = { sh3 with heap := pushCells (sh3.heap.push { cls := .type "dict", data := .dict #[] }) scope.names } := ⟨_, rfl⟩
  have st4 : tn 0 sh4.heap := T.keep _ _ _ (T.keep _ _ sh3.heap st2 fun b _ o e => by rw [heap3]; exact Heap.get?_push_of_some _ e) fun b _ o e => by rw [e4]; exact pushCells_keeps _ _ _ _ (Heap.get?_push_of_some _ e)
  rw [← e4] at I4
  have post : codeAny (model X.prog X.w) X.A (.compLoop (.DictComp kx vx [⟨tg, iter, ifs, 0⟩] scope pos) 0 (.ref it) (.ref D) (compEnvC scope cl L X.env)) (compPost (model X.prog X.w) X.A X.xe none (EP X pn J R) (.ref D) L) sh4 := by
    refine compLoop_anyD (fun n t => ∃ i hq, Inv (X.blk sh3 hp3 scope (compEnvC scope cl L X.env) fp) [] (wipe J (own.map (·.2))) hq t ∧ tn i t.heap ∧ (∀ b ∈ fp, hq b = none) ∧ W i n hq) ?_ m0 ⟨0, hp3, I4, st4, nofp, by rw [eh3]; exact w0⟩
    rintro n t5 ⟨i, hp5, I5, st5, n5, w5⟩
    rcases turn i n hp5 w5 with ⟨stop, fin⟩ | ⟨goes, Nx, onward, step⟩
    · refine thnF (T.done (X.blk sh3 hp3 scope (compEnvC scope cl L X.env) fp) rfl rfl rfl calm i [] t5 _ hp5 (fun _ _ => False) I5 (still I5 n5) st5 stop) fun r t6 ⟨er, I6⟩ => ?_
      subst er
      have back : Inv X pn J hp5 t6 := I3.call' (ch := fp) I6.os I6.base I6.hok I6.bare fun b hb => ⟨(frame b hb).1.2.2.2.1, (frame b hb).1.2.1, (frame b hb).1.2.2.2.2.1, (frame b hb).1.2.2.2.2.2⟩
      have freeL : hp5 L = none := I6.free
      obtain ⟨m, hm, _⟩ := I6.loc
      have hm : t6.heap.Ns L m := hm
      obtain ⟨f0, f1, f2, f3, f4, f5⟩ := I3.fpOk (b := L) (by rw [eL]; exact Nat.le_refl _) freeL
      exact ⟨m, hm, fun hx sb => ⟨.ref D, hp5, back.turned (t' := t6.toks) (fun b o hb e => (sb.2 b hb).trans e) f0 f1 f3 f4 f5, rfl, fin⟩⟩
    · refine thnF (T.item (X.blk sh3 hp3 scope (compEnvC scope cl L X.env) fp) rfl rfl rfl calm i [] t5 _ hp5 (fun _ _ => False) I5 (still I5 n5) st5 goes) fun r t6 ⟨u, er, h6⟩ => ?_
      subst er
      refine thnF h6 fun _ t7 ⟨x, hp7, I7, r7, y7, st7, n7⟩ => ?_
      refine thnF (qg.run _ t7 _ hp7 x u _ (I7.pinned (still I7 n7) (T.obj _ _ st7)) r7 (step x hp7 y7)) fun _ t8 ⟨σ8, hp8, I8, hw, q8⟩ => ?_
      refine thnF (qt.run _ t8 σ8 hp8 _ I8 q8) fun c t9 ⟨hp9, I9, q9⟩ => ?_
      have again : ∀ {t' : Shared} {h' : Hp}, Inv (X.blk sh3 hp3 scope (compEnvC scope cl L X.env) fp) ([] ++ pinsAt fp t7.heap) σ8 h' t' → Nx h' → ∃ m, m < n ∧ ∃ i hq, Inv (X.blk sh3 hp3 scope (compEnvC scope cl L X.env) fp) [] (wipe J (own.map (·.2))) hq t' ∧ tn i t'.heap ∧ (∀ b ∈ fp, hq b = none) ∧ W i m hq := fun {t' h'} I' nx => by
        obtain ⟨m', less, w'⟩ := onward h' nx
        have pinned : ∀ b ∈ fp, ∀ o, t7.heap.get? b = some o → t'.heap.get? b = some o ∧ h' b = none := fun b hb o e => ⟨(I'.pin (b, o) (List.mem_append_right _ (List.mem_append_right _ (mem_pinsAt hb e)))).1, (I'.pin (b, o) (List.mem_append_right _ (List.mem_append_right _ (mem_pinsAt hb e)))).2.1⟩
        refine ⟨m', less, i + 1, h', (I'.unpinned (pins := [])).weak (by rw [← hw, wipe_length]) (fun j v e => ?_), T.keep _ _ _ st7 fun b hb o e => (pinned b hb o e).1, fun b hb => ?_, w'⟩
        · rw [← hw] at e
          exact (wipe_some e).1
        · obtain ⟨o, ob, _⟩ := T.obj _ _ st7 b hb
          exact (pinned b hb o ob).2
      cases c with
      | false =>
        simp only [Bool.false_eq_true, if_false] at q9 ⊢
        exact again I9 q9
      | true =>
        simp only [if_true] at q9 ⊢
        refine thnF (qk.run _ t9 σ8 hp9 _ I9 q9) fun z t10 ⟨yk, hp10, I10, r10, q10⟩ => ?_
        refine thnF (qv.run _ t10 σ8 hp10 _ I10 q10) fun z2 t11 ⟨yv, hp11, I11, r11, kt, key, b, ek, atD, atb, few, nx⟩ => ?_
        subst ek
        exact put_tup (X := X.blk sh3 hp3 scope (compEnvC scope cl L X.env) fp) units I11 atD atb few r10 r11 fun t12 I12 => again I12 nx
  rw [← eD, ← e3, ← ecl, ← eL, ← e4]
  exact codeAny_compStart_dict post (T.self X.A 0 _ _ _ st4 post)
end
end XX

set_option maxRecDepth 100000
set_option maxHeartbeats 4000000
/-! max(t, default=d) of a tuple of ints -/
namespace XX
open PySem PySem.Spec PyProof.Rows L2
theorem int_of_holds {h : Heap} {v : Value} {n : Int} (H : PySem.W.Holds h v n) : ∃ t, v = .int n t := by
  obtain ⟨as, r⟩ := H
  cases r with
  | int i t => exact ⟨t, rfl⟩
theorem maxOf_fold : ∀ (xs : List Int) (x : Int), (xs.foldl (fun a y => if PySem.W.DatumOrd.lt a y = true then y else a) x) ∈ x :: xs ∧ ∀ y ∈ x :: xs, y ≤ xs.foldl (fun a y => if PySem.W.DatumOrd.lt a y = true then y else a) x
  | [], x => ⟨List.mem_singleton.mpr rfl, fun y hy => by rw [List.mem_singleton.mp hy]; exact Int.le_refl _⟩
  | z :: xs, x => by
    rw [List.foldl_cons]
    have e : PySem.W.DatumOrd.lt x z = decide (x < z) := rfl
    rw [e]
    by_cases c : x < z
    · rw [decide_eq_true c, if_pos rfl]
      obtain ⟨h1, h2⟩ := maxOf_fold xs z
      refine ⟨List.mem_cons_of_mem _ h1, fun y hy => ?_⟩
      rcases List.mem_cons.mp hy with e | hy
      · have := h2 z (List.mem_cons_self ..)
        rw [e]
        omega
      · exact h2 y hy
    · rw [decide_eq_false c, if_neg (by decide)]
      obtain ⟨h1, h2⟩ := maxOf_fold xs x
      refine ⟨?_, fun y hy => ?_⟩
      · rcases List.mem_cons.mp h1 with e | h1
        · rw [e]
          exact List.mem_cons_self ..
        · exact List.mem_cons_of_mem _ (List.mem_cons_of_mem _ h1)
      · rcases List.mem_cons.mp hy with e | hy
        · rw [e]
          exact h2 x (List.mem_cons_self ..)
        · rcases List.mem_cons.mp hy with e | hy
          · have := h2 x (List.mem_cons_self ..)
            rw [e]
            omega
          · exact h2 y (List.mem_cons_of_mem _ hy)
section
variable {X : Cx}
/-- max(t, default=d) -/
def rMaxDef (K : PySem.W.Frag) : List V → List V → Hp → VK → Prop := fun vs zs H Q => ∃ (a : Addr) (ns : List Int) (d : Int), vs = [V.ref a] ∧ SqT K H a (ns.map V.int) ∧ zs = [V.int d] ∧ ∀ m : Int, (ns = [] → m = d) → (ns ≠ [] → m ∈ ns ∧ ∀ y ∈ ns, y ≤ m) → Q (.int m) H
theorem cr_maxDef (hc : X.calm = true) (hu : X.A.units + 1 < cLine) : CallRK X (.builtin "max") ["default"] (rMaxDef X.K) := by
  intro pins s σ H vs zs us ws Q I r r2 h
  obtain ⟨a, ns, d, rfl, hs, rfl, q⟩ := h
  obtain ⟨its, rv, hl, _⟩ := I.tuple hs
  rw [Vals.ref1 r]
  cases r2 with
  | cons rd rn =>
    cases rn
    obtain ⟨t, rfl⟩ := rd
    refine PySem.W.max_tuple_datum_default (vs := its.toArray) (xs := ns) (I.ok.hd hc) (by obtain ⟨o, h1, h2, n, h3⟩ := hl; exact ⟨o, h1, h2, n, h3⟩) (by simpa using PySem.W.HoldAll.of_ints rv.ints) (by show _ + 1 + 0 < _; omega) (fun e h' tk hk => ?_) (fun y ys i v h' tk e hi hv hk => ?_)
    · exact ⟨.int d, H, I.kept hk, ⟨_, rfl⟩, q d (fun _ => rfl) (fun n => absurd e n)⟩
    · obtain ⟨t', rfl⟩ := int_of_holds hv
      subst e
      obtain ⟨h1, h2⟩ := maxOf_fold ys y
      exact ⟨.int _, H, I.kept hk, ⟨_, rfl⟩, q _ (fun n => nomatch n) (fun _ => ⟨h1, h2⟩)⟩
end
end XX

set_option maxRecDepth 100000
set_option maxHeartbeats 4000000
/-! d[t], t a tuple of ints and texts, however it stands -/
namespace XX
open PySem PySem.Spec PyProof.Rows L2
theorem key_ofS {X : Cx} {pins : List (Addr × Obj)} {σ : L2.St} {H : Hp} {s : Shared} {b : Addr} {ks : List Key} (I : Inv X pins σ H s) (e : SqT X.K H b (ks.map kV)) : (tupleKind (mixKind X.prog X.w)).is s.heap ks b := by
  obtain ⟨its, r, ⟨o, h1, h2, n, h3⟩, _⟩ := I.tuple e
  exact ⟨o, its.toArray, n, h1, h2, h3, by simpa using items_are r⟩
def tDGetT (K : PySem.W.Frag) (td ty : TE) : TE := fun σ H Q => td σ H fun x H1 => ty σ H1 fun y H2 => ∃ (a b : Addr) (kvs : List (List Key × V)) (k : List Key) (v : V), x = .ref a ∧ y = .ref b ∧ H2 a = some (.dT kvs) ∧ SqT K H2 b (k.map kV) ∧ valV kvs k = some v ∧ Q v H2
section
variable {X : Cx} {o i : Expr} {pos : Pos} {td ty : TE}
theorem pe_dgetT (hu : X.A.units + 1 < cLine) (ho : PE X o td) (hi : PE X i ty) (hs : NoSl i) : PE X (.Subscript o i pos) (tDGetT X.K td ty) := by
  refine ⟨fun pins s σ H Q I h => ?_⟩
  refine subD_of PySem.F.slot_dict_getitem.lookup hs (thn (ho.run pins s σ H _ I h) fun u s1 ⟨x, H1, I1, rx, q1⟩ => thn (hi.run pins s1 σ H1 _ I1 q1) fun iv s2 ⟨y, H2, I2, ry, a, b, kvs, k, v, ex, ey, e, eb, l, q2⟩ => ?_)
  subst ex
  subst ey
  obtain rfl : u = Value.ref a := rx
  cases (show iv = Value.ref b from ry)
  obtain ⟨z, hd, xs, rel, dd⟩ := dt_rd I2.hok (.inl e)
  refine ⟨dd.typeIs, ?_⟩
  obtain ⟨w', hw, rw'⟩ := RelO.some_of (v := v) (o := (atKey xs k).map (·.2)) (by rw [← l]; exact rel.val k)
  obtain ⟨p, hp, hp2⟩ := Option.map_eq_some_iff.mp hw
  refine wpAny_getItem_heap (tupleKind_room_in1 hu) (key_ofS I2 eb) dd hp ?_
  rw [hp2]
  exact ⟨v, H2, I2.tok _, rw', q2⟩
theorem pe_dgetTK (K : PySem.W.Frag) (h : X.K = K) (hu : X.A.units + 1 < cLine) (ho : PE X o td) (hi : PE X i ty) (hs : NoSl i) : PE X (.Subscript o i pos) (tDGetT K td ty) := by
  subst h
  exact pe_dgetT hu ho hi hs
end
end XX

set_option maxRecDepth 100000
set_option maxHeartbeats 4000000
/-! a method without arguments that may raise, at the slots -/
namespace XX
open PySem PySem.Spec PyProof.Rows L2
section
variable {X : Cx} {CX : CXT} {k : Nat} {C : Addr} {m : Str} {ps : List Str} {sp : Sp} {E : L2.St → XK} {pos apos : Pos} {o : Expr} {ta : TE} {pl : Sem Bool}
theorem pe_m0X (he : PE X o ta) (c : Cls X.K C) (M : MtC X.prog X.w X.K X.mg X.base CX k C m ps sp) (hr : Room k X.A) (hx : ∀ σ, PassesAt CX X σ (E σ))
    (ht : eval (.Call (.Attribute o m apos) [] [] pos) X.env = (do
      let ov ← eval o X.env
      standAt apos.atName
      let (f, first) ← holding [ov] (getMethod ov m pl)
      callWith pos f first (backTo pos (starEach [] X.env)) (backToKw pos (keywordEach [] X.env))) := by rfl) :
    PE X (.Call (.Attribute o m apos) [] [] pos) (tMethX C m sp E ta tNil) := by
  obtain ⟨f, fd, F, hm, hb⟩ := M.ex
  refine ⟨fun pins s σ H Q I h => ?_⟩
  refine PySem.W.methodCall_KW (pl := pl) (thn (he.run pins s σ H _ I h) fun u s1 ⟨x, H1, I1, rx, a, dx, fs, ex, ea, l, q⟩ => ?_) ht
  subst ex
  obtain rfl : u = Value.ref a := rx
  refine getmeth_ok I1 ea c hm l ?_
  exact PySem.W.callWith_K0 (first := [.ref a]) I1.kIn hm.kp (run_fnS (us := [.ref a]) (vs := [.ref a]) F hr hb (hx σ) I1 (.cons rfl .nil) q)
end
end XX

set_option maxRecDepth 100000
set_option maxHeartbeats 4000000
/-! own == and != beside a value of any type that is not under the class -/
namespace XX
open PySem PySem.Spec PyProof.Rows L2
def BesT (K : PySem.W.Frag) (C : Addr) (H : Hp) (y : V) : Prop := (∃ b dy gs, y = .ref b ∧ H b = some (.ins C dy gs)) ∨ (∃ t, TyX K H y t ∧ PySem.W.notFirst K C t = true)
def rEqT (K : PySem.W.Frag) (C : Addr) (sp : Sp) : R2 := fun x y H Q => ∃ a dx fs, x = .ref a ∧ H a = some (.ins C dx fs) ∧ BesT K C H y ∧ sp [x, y] H (fun v H' => ∃ b, v = .bl b ∧ Q (.bl b) H') E0
section
variable {X : Cx} {k : Nat} {C : Addr} {sp : Sp}
theorem besT_look {pins : List (Addr × Obj)} {σ : L2.St} {H : Hp} {s : Shared} {M : Model} {y : V} {u : Value} (I : Inv X pins σ H s) (ry : RelV y u) (h : BesT X.K C H y) : ∃ tb, PySem.W.Looks M s.heap (typeOf u) tb ∧ PySem.W.notFirst X.K C tb = true := by
  rcases h with ⟨b, dy, gs, rfl, hb⟩ | ⟨t, ht, hn⟩
  · cases ry
    obtain ⟨mB, J, _⟩ := ins_get I.hok hb
    obtain ⟨od, J, _⟩ := J.look
    exact ⟨_, J.type, by simp [PySem.W.notFirst]⟩
  · obtain ⟨Pk, Z, hP, _⟩ := kit_of I ry ht
    exact ⟨t, Z.ty _ _ I.kIn hP, hn⟩
theorem op_eqT (M : MtC X.prog X.w X.K X.mg X.base CX0 k C "__eq__" ["self", "other"] sp) (hr : Room k X.A) : OpR X (compareOp .Eq) (rEqT X.K C sp) := by
  intro pins s σ H x y v u Q I rx ry h
  obtain ⟨a, dx, fs, rfl, ha, hb, hs⟩ := h
  obtain ⟨f, fd, F, hm, bi⟩ := M.ex
  cases rx
  obtain ⟨mA, J, _⟩ := ins_get I.hok ha
  obtain ⟨od, J, _⟩ := J.look
  obtain ⟨m, hF⟩ := I.fr
  obtain ⟨tb, ht, hn⟩ := besT_look (M := model X.prog X.w) I ry hb
  have hnf := hn
  refine PySem.W.cmp_K (op := .Eq) (tb := tb) (by have := hr.un; omega) hF I.ok.mod.kin J ht hnf hm.at_ hm.fn ?_
  refine wpAny_mono (run_at F hr I.env0 bi (fun _ _ _ _ _ _ z => z.elim) I (us := [.ref a, u]) (vs := [.ref a, y]) (.cons rfl (.cons ry .nil)) hs) (fun w s' q => ?_) fun _ _ e => e
  obtain ⟨z, H', I', rz, b, rfl, q⟩ := q
  cases rz
  exact ⟨.bl b, H', I', rfl, q⟩
theorem op_neT (M : MtC X.prog X.w X.K X.mg X.base CX0 k C "__eq__" ["self", "other"] sp) (hne : PySem.W.findIn X.K (.ref C) "__ne__" = some (some (.builtin "object.__ne__"))) (hob : PySem.W.subIn X.K (.ref C) (.type "object") = some true)
    (hr : Room (k + 1) X.A) : OpR X (compareOp .NotEq) (fun x y H Q => rEqT X.K C sp x y H (fun v H' => ∃ b, v = .bl b ∧ Q (.bl (!b)) H')) := by
  intro pins s σ H x y v u Q I rx ry h
  obtain ⟨a, dx, fs, rfl, ha, hb, hs⟩ := h
  obtain ⟨f, fd, F, hm, bi⟩ := M.ex
  cases rx
  obtain ⟨mA, J, _⟩ := ins_get I.hok ha
  obtain ⟨od, J, _⟩ := J.look
  obtain ⟨tb, ht, hn⟩ := besT_look (M := model X.prog X.w) I ry hb
  have hnf : tb = .ref C ∨ PySem.W.subIn X.K tb (.ref C) = some false := by
    unfold PySem.W.notFirst at hn
    rcases Bool.or_eq_true_iff.mp hn with e | e
    · exact .inl (beq_iff_eq.mp e)
    · exact .inr (beq_iff_eq.mp e)
  have hu : X.A.units + 1 < cLine := by have := hr.un; omega
  have one : wpAny (model X.prog X.w) X.A (tryCompare (.ref a) "__ne__" u) (fun r s' => ∃ v, r = some v ∧ EP X pins σ Q v s') X.xe s := by
    unfold tryCompare
    refine wpAny_bind (ifBoundB_K I.kIn J hne PySem.F.cmp_object.ne (wpAny_call (codeAny_call_builtin PySem.F.cmp_object.ne.plain PySem.F.cmpEntry_ne (PySem.W.check_slot PySem.F.cmpKind_ne PySem.F.cmpSplit_ne (J.type.andThen (PySem.W.looks_subIn I.kIn hob)) (PySem.F.cmpArgs_ne _ _) ?_))))
    unfold Builtin.«object.__ne__»
    repeat (first
      | with_reducible refine wpAny_cRoomFor hu ?_
      | (refine wpAny_bind (m := callSpecialIfBound? (.ref a) (Str.ofString "__eq__") [u])
          (PySem.W.ifBound_K I.kIn J hm.at_ hm.fn (wpAny_mono (run_at (us := [.ref a, u]) (vs := [.ref a, y]) F hr.in1 I.env0.in1 bi (fun _ _ _ _ _ _ z => z.elim) I (.cons rfl (.cons ry .nil)) hs) (fun r s' hq => by
            obtain ⟨z, H', I', rz, b, rfl, b', eb, q⟩ := hq
            cases eb
            cases rz
            repeat (first | exact ⟨_, rfl, .bl (!b), H', I', rfl, q⟩ | exact wpAny_pure ⟨_, rfl, .bl (!b), H', I', rfl, q⟩ | exact ⟨_, rfl, .bl (!b), H', I', rfl, b, rfl, q⟩ | exact wpAny_pure ⟨_, rfl, .bl (!b), H', I', rfl, b, rfl, q⟩ | exact wpAny_truthy_bool (wpAny_pure (wpAny_pure ⟨_, rfl, .bl (!b), H', I', rfl, b, rfl, q⟩)) | (refine wpAny_bind (m := truthy (.bool _)) (wpAny_truthy_bool ?_)) | wp_step)) fun _ _ e => e)))
      | wp_step)
  show wpAny _ _ (richCompare .NotEq (.ref a) u) _ _ _
  unfold richCompare
  simp only [oneThing_ref]
  refine wpAny_holding (wpAny_bind (wpAny_cRoomFor (by omega) ?_))
  refine wpAny_bind (J.type.here (wpAny_bind (ht.here ?_)))
  split
  · rename_i qq
    have e : PySem.W.subIn X.K tb (.ref C) = some false := by
      rcases hnf with e | e
      · rw [e] at qq; simp at qq
      · exact e
    refine wpAny_bind ((PySem.W.looks_subIn I.kIn e).here ?_)
    simp only [Bool.false_eq_true, if_false]
    refine wpAny_bind (wpAny_mono one (fun r s' z => ?_) fun _ _ e => e)
    obtain ⟨v, rfl, hq⟩ := z
    exact wpAny_pure hq
  · refine wpAny_bind (wpAny_pure ?_)
    simp only [Bool.false_eq_true, if_false]
    refine wpAny_bind (wpAny_mono one (fun r s' z => ?_) fun _ _ e => e)
    obtain ⟨v, rfl, hq⟩ := z
    exact wpAny_pure hq
end
end XX

set_option maxRecDepth 100000
set_option maxHeartbeats 4000000
/-! set(list of ints): how many it holds -/
namespace XX
open PySem PySem.Spec PyProof.Rows L2
theorem setR_many {w : World} {h : Heap} {a : Addr} {ns : List Int} {m : Nat} (R : SetR w h a (fun z => decide (z ∈ ns)) m) : ∃ L : List Int, L.Nodup ∧ L.length = m ∧ ∀ k, k ∈ L ↔ k ∈ ns := by
  obtain ⟨o, es, ep, t, _, _, _, _, h1, h2, _, _, h3, _⟩ := R
  refine ⟨es.toList.map keyOf, h1, by rw [List.length_map, Array.length_toList, h3], fun k => ?_⟩
  have q := h2 k
  simp only [decide_eq_true_eq] at q
  exact q.symm
def rSetIM (K : PySem.W.Frag) (w : World) : List V → Hp → VK → Prop := fun vs H Q => ∃ (l : Addr) (ns : List Int), vs = [.ref l] ∧ SqL K H l (ns.map V.int) ∧ ns.length ≤ 1000 ∧ ∀ (p : Addr) (L : List Int), H p = none → L.Nodup → (∀ k, k ∈ L ↔ k ∈ ns) → L.length ≤ ns.length → Q (.ref p) (upd H p (SetO w p (fun z => decide (z ∈ ns)) L.length))
theorem cr_setIM {X : Cx} (hc : X.calm = true) : CallR X (.type "set") (rSetIM X.K X.w) := by
  intro pins s σ H vs us Q I r h
  obtain ⟨l, ns, rfl, hq, h1, q⟩ := h
  rw [Vals.ref1 r]
  obtain ⟨its, rv, pl, hz⟩ := I.list hq
  refine call_setIl (I.ok.hd hc) pl.isList (ints_of_vals rv) (by unfold scanBound; omega) fun h' tk m R hm k => ?_
  obtain ⟨L, l1, l2, l3⟩ := setR_many R
  subst l2
  have I2 : Inv X pins σ (upd H s.heap.objs.size (SetO X.w s.heap.objs.size (fun z => decide (z ∈ ns)) L.length)) { s with heap := h', toks := tk } := I.laid (t' := tk) (fun b u e => k b u (Heap.lt_size e) e) (Nat.le_refl _) (setO_new R)
  exact ⟨.ref _, _, I2, rfl, q _ L (I.hok.fresh (Nat.le_refl _)) l1 l3 hm⟩
/-- how many a list holds that has the same as another one, each once -/
theorem one_iff {L ns : List Int} (n : L.Nodup) (h : ∀ k, k ∈ L ↔ k ∈ ns) (ne : ns ≠ []) : L.length = 1 ↔ ∀ x ∈ ns, x = ns.headD 0 := by
  match ns, ne with
  | a :: as, _ =>
    constructor
    · intro e x hx
      match L, e with
      | [b], _ =>
        have h1 := List.mem_singleton.mp ((h x).mpr hx)
        have h2 := List.mem_singleton.mp ((h a).mpr (List.mem_cons_self ..))
        show x = a
        rw [h1, h2]
    · intro e
      match L, n, h with
      | [], _, h => exact absurd ((h a).mpr (List.mem_cons_self ..)) (by simp)
      | [b], _, _ => rfl
      | b :: c :: L, n, h =>
        have h1 : b = a := e b ((h b).mp (List.mem_cons_self ..))
        have h2 : c = a := e c ((h c).mp (List.mem_cons_of_mem _ (List.mem_cons_self ..)))
        rw [h1, h2] at n
        exact absurd n (by simp)
theorem call_lenSO {X : Cx} : CallR X (.builtin "len") (fun xs H Q => ∃ a S n, xs = [.ref a] ∧ H a = some (SetO X.w a S n) ∧ n ≤ 1000 ∧ Q (.int (n : Nat)) H) := by
  intro pins s σ H xs us Q I r h
  obtain ⟨a, S, n, rfl, ha, hn, q⟩ := h
  rw [Vals.ref1 r]
  obtain ⟨o, es, ep, t, ho, hx, hd, h1, h2, h3, h4, h5, h6, _⟩ := setO_get I ha
  refine PySem.call_len_set ho hx hd h5 (by rw [h6]; omega) ?_
  rw [h6]
  exact ⟨.int _, H, I.tok _, ⟨_, rfl⟩, q⟩
end XX

set_option maxRecDepth 100000
set_option maxHeartbeats 4000000
/-! an expression that is never reached -/
namespace XX
open PySem PySem.Spec PyProof.Rows L2
def tNo : TE := fun _ _ _ => False
theorem pe_no {X : Cx} {e : Expr} : PE X e tNo := ⟨fun _ _ _ _ _ _ h => h.elim⟩
end XX

set_option maxRecDepth 100000
set_option maxHeartbeats 4000000
/-! two rules for one built-in: either serves -/
namespace XX
open PySem PySem.Spec PyProof.Rows L2
def rEither (r1 r2 : List V → Hp → VK → Prop) : List V → Hp → VK → Prop := fun xs H Q => r1 xs H Q ∨ r2 xs H Q
theorem callR_or {X : Cx} {f : Value} {r1 r2 : List V → Hp → VK → Prop} (h1 : CallR X f r1) (h2 : CallR X f r2) : CallR X f (rEither r1 r2) := by
  intro pins s σ H xs us Q I r h
  rcases h with h | h
  · exact h1 pins s σ H xs us Q I r h
  · exact h2 pins s σ H xs us Q I r h
end XX

namespace XX
/-! ### what is come to by steps, without what is barred -/
inductive Rch (ways : Nat → List Nat) (S : List Nat) (B : Nat → Prop) : Nat → Prop
  | base {v : Nat} : v ∈ S → ¬ B v → Rch ways S B v
  | step {u v : Nat} : Rch ways S B u → v ∈ ways u → ¬ B v → Rch ways S B v
theorem Rch.mono {ways : Nat → List Nat} {S : List Nat} {B B' : Nat → Prop} (h : ∀ v, B' v → B v) : ∀ {v : Nat}, Rch ways S B v → Rch ways S B' v
  | _, .base m n => .base m fun z => n (h _ z)
  | _, .step r m n => .step (r.mono h) m fun z => n (h _ z)
theorem Rch.bar {ways : Nat → List Nat} {S : List Nat} {B : Nat → Prop} : ∀ {v : Nat}, Rch ways S B v → ¬ B v
  | _, .base _ n => n
  | _, .step _ _ n => n
/-- a road from the ways of b need not come to b again -/
theorem Rch.again {ways : Nat → List Nat} {b : Nat} : ∀ {v : Nat}, Rch ways (ways b) (fun _ => False) v → Rch ways (ways b) (fun x => x = b) v ∨ v = b
  | v, .base m _ => by
    by_cases e : v = b
    · exact .inr e
    · exact .inl (.base m e)
  | v, .step (u := u) r m _ => by
    by_cases e : v = b
    · exact .inr e
    rcases r.again with h | h
    · exact .inl (.step h m e)
    · subst h
      exact .inl (.base m e)
section
variable {ways : Nat → List Nat} {S : List Nat} {C : List Nat} {E row : Nat}
/-- the one is come to without the other, and the other without the one: then no row ahead of the end is on all roads -/
theorem Rch.either {other : Nat} (hne : other ≠ row) (hp : Rch ways S (fun x => x = other) row) (hq : Rch ways S (fun x => x = row) other) : ∀ {v : Nat}, Rch ways S (fun _ => False) v → Rch ways S (fun x => x = other) v ∨ Rch ways S (fun x => x = row) v
  | v, .base m _ => by
    by_cases e : v = other
    · subst e
      exact .inr (.base m hne)
    · exact .inl (.base m e)
  | v, .step r m _ => by
    rcases Rch.either hne hp hq r with h | h
    · by_cases e : v = other
      · subst e
        exact .inr hq
      · exact .inl (.step h m e)
    · by_cases e : v = row
      · subst e
        exact .inl hp
      · exact .inr (.step h m e)
theorem Rch.lift (h : ∀ o ∈ C, o ≠ row → ¬ Rch ways S (fun x => x = row) o) : ∀ {v : Nat}, Rch ways S (fun x => x = row) v → Rch ways S (fun x => x ∈ C ∧ x ≠ row) v
  | v, .base m n => .base m fun z => h v z.1 z.2 (.base m n)
  | v, .step r m n => .step (Rch.lift h r) m fun z => h v z.1 z.2 (.step r m n)
theorem Rch.meets (h : ∀ o ∈ C, o ≠ row → ¬ Rch ways S (fun x => x = row) o) : ∀ {v : Nat}, Rch ways S (fun _ => False) v → Rch ways S (fun x => x = row) v ∨ Rch ways S (fun x => x ∈ C ∧ x ≠ row) row
  | v, .base m _ => by
    by_cases e : v = row
    · subst e
      exact .inr (.base m fun z => z.2 rfl)
    · exact .inl (.base m e)
  | v, .step r m _ => by
    rcases Rch.meets h r with g | g
    · by_cases e : v = row
      · subst e
        exact .inr (.step (Rch.lift h g) m fun z => z.2 rfl)
      · exact .inl (.step g m e)
    · exact .inr g
/-- both tests of a common row say the same -/
theorem Rch.first_iff (hE : Rch ways S (fun _ => False) E) (hC : ∀ r ∈ C, ¬ Rch ways S (fun x => x = r) E) (hr : row ∈ C) :
    Rch ways S (fun x => x ∈ C ∧ x ≠ row) row ↔ ∀ o ∈ C, o ≠ row → ¬ Rch ways S (fun x => x = row) o := by
  constructor
  · intro hp o ho hne hq
    have hp' : Rch ways S (fun x => x = o) row := hp.mono fun v z => by
      subst z
      exact ⟨ho, hne⟩
    rcases Rch.either hne hp' hq hE with h | h
    · exact hC o ho h
    · exact hC row hr h
  · intro h
    rcases Rch.meets h hE with g | g
    · exact absurd g (hC row hr)
    · exact g
end
/-! ### the search: what is found, what is left -/
structure Sk (ways : Nat → List Nat) (S bs fs ls : List Nat) : Prop where
  nd : fs.Nodup
  r : ∀ v ∈ fs, Rch ways S (fun x => x ∈ bs) v
  src : ∀ v ∈ ls, v ∈ S ∨ ∃ u, u ∈ fs ∧ v ∈ ways u
  cl : ∀ v, (v ∈ S ∨ ∃ u, u ∈ fs ∧ v ∈ ways u) → v ∈ fs ∨ v ∈ ls ∨ v ∈ bs
theorem Sk.start {ways : Nat → List Nat} {S bs : List Nat} : Sk ways S bs [] S :=
  ⟨List.nodup_nil, fun v h => (List.not_mem_nil h).elim, fun v h => .inl h, fun v h => h.elim (fun h => .inr (.inl h)) fun ⟨u, h, _⟩ => (List.not_mem_nil h).elim⟩
theorem Sk.drop {ways : Nat → List Nat} {S bs fs ls : List Nat} {v : Nat} (k : Sk ways S bs fs (ls ++ [v])) (h : v ∈ fs ∨ v ∈ bs) : Sk ways S bs fs ls := by
  refine ⟨k.nd, k.r, fun w hw => k.src w (List.mem_append_left _ hw), fun w hw => ?_⟩
  rcases k.cl w hw with a | a | a
  · exact .inl a
  · rcases List.mem_append.mp a with a | a
    · exact .inr (.inl a)
    · rw [List.mem_singleton.mp a]
      exact h.elim .inl fun z => .inr (.inr z)
  · exact .inr (.inr a)
theorem Sk.add {ways : Nat → List Nat} {S bs fs ls : List Nat} {v : Nat} (k : Sk ways S bs fs (ls ++ [v])) (h1 : v ∉ fs) (h2 : v ∉ bs) : Sk ways S bs (fs ++ [v]) (ls ++ ways v) := by
  have hv : Rch ways S (fun x => x ∈ bs) v := by
    rcases k.src v (List.mem_append_right _ (List.mem_singleton.mpr rfl)) with a | ⟨u, a, b⟩
    · exact .base a h2
    · exact .step (k.r u a) b h2
  refine ⟨List.nodup_append.mpr ⟨k.nd, by simp, fun a ha b hb e => ?_⟩, fun w hw => ?_, fun w hw => ?_, fun w hw => ?_⟩
  · rw [List.mem_singleton.mp hb] at e
    exact h1 (e ▸ ha)
  · rcases List.mem_append.mp hw with hw | hw
    · exact k.r w hw
    · rw [List.mem_singleton.mp hw]
      exact hv
  · rcases List.mem_append.mp hw with hw | hw
    · rcases k.src w (List.mem_append_left _ hw) with a | ⟨u, a, b⟩
      · exact .inl a
      · exact .inr ⟨u, List.mem_append_left _ a, b⟩
    · exact .inr ⟨v, List.mem_append_right _ (List.mem_singleton.mpr rfl), hw⟩
  · have old : (w ∈ S ∨ ∃ u, u ∈ fs ∧ w ∈ ways u) → w ∈ fs ++ [v] ∨ w ∈ ls ++ ways v ∨ w ∈ bs := fun z => by
      rcases k.cl w z with a | a | a
      · exact .inl (List.mem_append_left _ a)
      · rcases List.mem_append.mp a with a | a
        · exact .inr (.inl (List.mem_append_left _ a))
        · exact .inl (List.mem_append_right _ a)
      · exact .inr (.inr a)
    rcases hw with a | ⟨u, a, b⟩
    · exact old (.inl a)
    · rcases List.mem_append.mp a with a | a
      · exact old (.inr ⟨u, a, b⟩)
      · rw [List.mem_singleton.mp a] at b
        exact .inr (.inl (List.mem_append_right _ b))
theorem Sk.done {ways : Nat → List Nat} {S bs fs : List Nat} (k : Sk ways S bs fs []) : ∀ v, v ∈ fs ↔ Rch ways S (fun x => x ∈ bs) v := fun v => by
  refine ⟨k.r v, fun h => ?_⟩
  induction h with
  | base a n =>
    rcases k.cl _ (.inl a) with b | b | b
    · exact b
    · exact (List.not_mem_nil b).elim
    · exact (n b).elim
  | step a b n ih =>
    rcases k.cl _ (.inr ⟨_, ih, b⟩) with c | c | c
    · exact c
    · exact (List.not_mem_nil c).elim
    · exact (n c).elim
theorem Rch.le {ways : Nat → List Nat} {S : List Nat} {B : Nat → Prop} {n : Nat} (h1 : ∀ v ∈ S, v ≤ n) (h2 : ∀ i, ∀ v ∈ ways i, v ≤ n) : ∀ {v : Nat}, Rch ways S B v → v ≤ n
  | v, .base a _ => h1 v a
  | v, .step (u := u) _ b _ => h2 u v b
theorem nodup_few {n : Nat} {l : List Nat} (hn : l.Nodup) (h : ∀ v ∈ l, v ≤ n) : l.length ≤ n + 1 := by
  have h1 : l ⊆ List.range (n + 1) := fun v hv => List.mem_range.mpr (Nat.lt_succ_of_le (h v hv))
  have h3 := List.Nodup.length_le_of_subset hn h1
  rw [List.length_range] at h3
  exact h3
/-! ### the same search, what is barred left out when it is put -/
structure Sb (ways : Nat → List Nat) (S : List Nat) (B : Nat → Bool) (fs ls : List Nat) : Prop where
  nd : fs.Nodup
  r : ∀ v ∈ fs, Rch ways S (fun x => B x = true) v
  src : ∀ v ∈ ls, B v = false ∧ (v ∈ S ∨ ∃ u, u ∈ fs ∧ v ∈ ways u)
  cl : ∀ v, B v = false → (v ∈ S ∨ ∃ u, u ∈ fs ∧ v ∈ ways u) → v ∈ fs ∨ v ∈ ls
theorem Sb.start {ways : Nat → List Nat} {S : List Nat} {B : Nat → Bool} : Sb ways S B [] (S.filter fun v => !B v) := by
  refine ⟨List.nodup_nil, fun v h => (List.not_mem_nil h).elim, fun v h => ?_, fun v hb h => ?_⟩
  · obtain ⟨a, b⟩ := List.mem_filter.mp h
    exact ⟨by simpa using b, .inl a⟩
  · rcases h with h | ⟨u, h, _⟩
    · exact .inr (List.mem_filter.mpr ⟨h, by rw [hb]; rfl⟩)
    · exact (List.not_mem_nil h).elim
theorem Sb.drop {ways : Nat → List Nat} {S fs ls : List Nat} {B : Nat → Bool} {v : Nat} (k : Sb ways S B fs (ls ++ [v])) (h : v ∈ fs) : Sb ways S B fs ls := by
  refine ⟨k.nd, k.r, fun w hw => k.src w (List.mem_append_left _ hw), fun w hb hw => ?_⟩
  rcases k.cl w hb hw with a | a
  · exact .inl a
  · rcases List.mem_append.mp a with a | a
    · exact .inr a
    · rw [List.mem_singleton.mp a]
      exact .inl h
theorem Sb.add {ways : Nat → List Nat} {S fs ls : List Nat} {B : Nat → Bool} {v : Nat} (k : Sb ways S B fs (ls ++ [v])) (h1 : v ∉ fs) : Sb ways S B (fs ++ [v]) (ls ++ (ways v).filter fun v => !B v) := by
  obtain ⟨hb, hs⟩ := k.src v (List.mem_append_right _ (List.mem_singleton.mpr rfl))
  have hn : ¬ B v = true := by
    rw [hb]
    exact Bool.false_ne_true
  have hv : Rch ways S (fun x => B x = true) v := by
    rcases hs with a | ⟨u, a, b⟩
    · exact .base a hn
    · exact .step (k.r u a) b hn
  refine ⟨List.nodup_append.mpr ⟨k.nd, by simp, fun a ha b hb e => ?_⟩, fun w hw => ?_, fun w hw => ?_, fun w hbw hw => ?_⟩
  · rw [List.mem_singleton.mp hb] at e
    exact h1 (e ▸ ha)
  · rcases List.mem_append.mp hw with hw | hw
    · exact k.r w hw
    · rw [List.mem_singleton.mp hw]
      exact hv
  · rcases List.mem_append.mp hw with hw | hw
    · obtain ⟨c, d⟩ := k.src w (List.mem_append_left _ hw)
      refine ⟨c, ?_⟩
      rcases d with a | ⟨u, a, b⟩
      · exact .inl a
      · exact .inr ⟨u, List.mem_append_left _ a, b⟩
    · obtain ⟨a, b⟩ := List.mem_filter.mp hw
      exact ⟨by simpa using b, .inr ⟨v, List.mem_append_right _ (List.mem_singleton.mpr rfl), a⟩⟩
  · have old : (w ∈ S ∨ ∃ u, u ∈ fs ∧ w ∈ ways u) → w ∈ fs ++ [v] ∨ w ∈ ls ++ (ways v).filter fun v => !B v := fun z => by
      rcases k.cl w hbw z with a | a
      · exact .inl (List.mem_append_left _ a)
      · rcases List.mem_append.mp a with a | a
        · exact .inr (List.mem_append_left _ a)
        · exact .inl (List.mem_append_right _ a)
    rcases hw with a | ⟨u, a, b⟩
    · exact old (.inl a)
    · rcases List.mem_append.mp a with a | a
      · exact old (.inr ⟨u, a, b⟩)
      · rw [List.mem_singleton.mp a] at b
        exact .inr (List.mem_append_right _ (List.mem_filter.mpr ⟨b, by rw [hbw]; rfl⟩))
theorem Sb.done {ways : Nat → List Nat} {S fs : List Nat} {B : Nat → Bool} (k : Sb ways S B fs []) : ∀ v, v ∈ fs ↔ Rch ways S (fun x => B x = true) v := fun v => by
  refine ⟨k.r v, fun h => ?_⟩
  induction h with
  | base a n =>
    rcases k.cl _ (Bool.eq_false_iff.mpr n) (.inl a) with b | b
    · exact b
    · exact (List.not_mem_nil b).elim
  | step a b n ih =>
    rcases k.cl _ (Bool.eq_false_iff.mpr n) (.inr ⟨_, ih, b⟩) with c | c
    · exact c
    · exact (List.not_mem_nil c).elim
end XX

set_option maxRecDepth 100000
set_option maxHeartbeats 4000000
namespace PySem.SeqAt
/-! ### what is no number is in no range -/
theorem plain_ra_loop : plainId "range.__contains__.loop" = true := by decide +kernel
theorem entry_ra_loop : entryFor table "range.__contains__.loop" = some Builtin.«range.__contains__.loop» := entryFor_of_fast (by kernel_rfl)
def RaNo (prog : Program) (w : World) (r : Addr) (a b : Int) (t u v : Tok) (x : Value) (A : Around) (R : Result → Shared → Prop) (s : Shared) : Prop :=
  s.heap.get? r = some ⟨.type "range", none, .fields #[.int a t, .int b u, .int 1 v], #[]⟩ ∧ (∀ (A' : Around) (k : Int) (tk : Tok) (s' : Shared), EqP prog w A' s' (.int k tk) x false) ∧ ∀ tk, R (.ok (.ret (.bool false))) { s with toks := tk }
theorem ra_loop {prog : Program} {w : World} {r : Addr} {a b : Int} {t u v : Tok} {x : Value} {n : Nat} (hn : Builtin.Range.rangeSize a b 1 = n) (k : Nat) : ∀ i : Nat, n - i = k → MeetsIn prog w (Builtin.«range.__contains__.loop» ⟨[.ref r, x, rawInt i], []⟩) (RaNo prog w r a b t u v x) := by
  induction k with
  | zero =>
    intro i hi A R s h
    obtain ⟨hp, g, d, tk, os⟩ := s
    obtain ⟨hr, he, q⟩ := h
    wp_walk
    rw [if_pos (by rw [hn]; omega)]
    exact wpAny_pure (q tk)
  | succ k ih =>
    intro i hi A R s h
    obtain ⟨hp, g, d, tk, os⟩ := s
    obtain ⟨hr, he, q⟩ := h
    wp_walk
    rw [if_neg (by rw [hn]; omega)]
    generalize hEB : eqBool = EB
    wp_walk
    subst hEB
    first
      | refine he _ _ _ _ _ _ ?_
      | refine wpAny_bind (he _ _ _ _ _ _ ?_)
    wp_walk
    have e3 : ((i : Int) + 1) = ((i + 1 : Nat) : Int) := rfl
    show (Code.builtin "range.__contains__.loop" _).quiet = true ∧ _
    rw [e3]
    refine ⟨plainId_quiet plain_ra_loop _, codeAny_builtin entry_ra_loop ?_⟩
    rw [Around.under_plainId plain_ra_loop _]
    exact ih (i + 1) (by omega) A R _ ⟨hr, he, fun tk => q tk⟩
theorem ra_none {prog : Program} {w : World} {r : Addr} {a b : Int} {t u v : Tok} {x : Value} {n : Nat} (hn : Builtin.Range.rangeSize a b 1 = n) (hx : Builtin.Range.rangeExactInt? x = none) : MeetsIn prog w (Builtin.«range.__contains__» ⟨[.ref r, x], []⟩) (RaNo prog w r a b t u v x) := by
  intro A R s h
  obtain ⟨hp, g, d, tk, os⟩ := s
  wp_walk
  rw [hx]
  wp_walk
  refine ⟨plainId_quiet plain_ra_loop _, codeAny_builtin entry_ra_loop ?_⟩
  rw [Around.under_plainId plain_ra_loop _]
  exact ra_loop hn _ 0 rfl A R _ h
end PySem.SeqAt
namespace XX
open PySem PySem.Spec PyProof.Rows L2
def inRg (lo hi : Int) : V → Bool
  | .int i => decide (lo ≤ i) && decide (i < hi)
  | _ => false
def noNum : V → Bool
  | .non => true
  | .str _ => true
  | .int _ => true
  | _ => false
/-- v in a range: a number, None, a text -/
def rInRg : R2 := fun x y H Q => ∃ a lo hi, noNum x = true ∧ y = V.ref a ∧ H a = some (.rng lo hi) ∧ Q (.bl (inRg lo hi x)) H
theorem op_inRg {X : Cx} : OpR X (compareOp .In) rInRg := by
  intro pins s σ H x y v u Q I rx ry h
  obtain ⟨a, lo, hi, hx, rfl, ha, q⟩ := h
  have other : ∀ (x : V) (v : Value), flatV x = true → RelV x v → (∀ k : Int, eqV (.int k) x = false) → Builtin.Range.rangeExactInt? v = none → Q (.bl false) H → wpAny (model X.prog X.w) X.A (compareOp .In v u) (EP X pins σ Q) X.xe s := fun x v fx rx hk he q => by
    obtain rfl : u = Value.ref a := ry
    obtain ⟨t1, t2, t3, ho⟩ := I.hok a _ ha
    show wpAny _ _ (contains (Value.ref a) v >>= fun b => pure (Value.bool b)) _ _ s
    have hq : ∀ (A' : Around) (k : Int) (tk : Tok) (s' : Shared), SeqAt.EqP X.prog X.w A' s' (.int k tk) v false := fun A' k tk s' => by
      have e := (eqAt_V (A := A') (s := s') (y := .int k) (x := x) ⟨tk, rfl⟩ rx rfl fx).eqP (prog := X.prog) (w := X.w)
      rw [hk k] at e
      exact e
    refine wpAny_bind (wpAny_contains_slot (T := "range") ⟨_, ho, rfl⟩ F.slot_range_contains (call_meetsIn F.slot_range_contains ⟨_, ho, rfl⟩ F.entry_range_contains (F.args_range_contains_2 _ _) (SeqAt.ra_none (rangeSize_nat lo hi) he) ⟨ho, hq, fun tk => ?_⟩))
    exact wpAny_truthy_bool (wpAny_pure ⟨.bl false, H, I.tok tk, rfl, q⟩)
  cases x with
  | int i =>
    refine op_in_rng pins s σ H (.int i) (.ref a) v u Q I rx ry ⟨i, a, lo, hi, rfl, rfl, ha, ?_⟩
    have e : decide (lo ≤ i ∧ i < hi) = (decide (lo ≤ i) && decide (i < hi)) := by simp
    rw [e]
    exact q
  | non =>
    cases rx
    exact other .non _ rfl rfl (fun _ => rfl) rfl q
  | str z =>
    obtain ⟨t, rfl⟩ := rx
    exact other (.str z) _ rfl ⟨t, rfl⟩ (fun _ => rfl) rfl q
  | _ => cases hx
/-- range(n) as a value -/
def rRange1 : List V → Hp → VK → Prop := fun vs H Q => ∃ j, vs = [V.int j] ∧ ∀ p, H p = none → Q (.ref p) (upd H p (.rng 0 j))
theorem cr_range1 {X : Cx} : CallR X (.type "range") rRange1 := by
  intro pins s σ H vs us Q I r h
  obtain ⟨j, rfl, q⟩ := h
  obtain ⟨u1, rfl, rj⟩ := vals1 r
  obtain ⟨u, rfl⟩ := rj
  refine call_range_1 ⟨.ref s.heap.objs.size, upd H s.heap.objs.size (.rng 0 j), I.laid (t' := s.toks + 1 + 1) (fun b o e => Heap.get?_push_of_some _ e) (Nat.le_refl _) ?_, rfl, q _ (I.hok.fresh (Nat.le_refl _))⟩
  exact ⟨_, u, _, Heap.get?_push_size _ rfl⟩
end XX

namespace XX
/-! ### roads: walks that are kept -/
inductive Wk (ways : Nat → List Nat) (S : List Nat) : List Nat → Nat → Prop
  | one {v : Nat} : v ∈ S → Wk ways S [v] v
  | snoc {r : List Nat} {u v : Nat} : Wk ways S r u → v ∈ ways u → Wk ways S (r ++ [v]) v
section
variable {ways : Nat → List Nat} {S : List Nat}
theorem Wk.last {r : List Nat} {v : Nat} : Wk ways S r v → ∃ q, r = q ++ [v]
  | .one _ => ⟨[], rfl⟩
  | .snoc _ _ => ⟨_, rfl⟩
theorem Wk.ne {r : List Nat} {v : Nat} (h : Wk ways S r v) : r ≠ [] := by
  obtain ⟨q, rfl⟩ := h.last
  exact fun e => by simp at e
theorem Wk.rch {B : Nat → Prop} : ∀ {r : List Nat} {v : Nat}, Wk ways S r v → (∀ x ∈ r, ¬ B x) → Rch ways S B v
  | _, _, .one m, h => .base m (h _ (List.mem_singleton.mpr rfl))
  | _, _, .snoc w m, h => .step (w.rch fun x hx => h x (List.mem_append_left _ hx)) m (h _ (List.mem_append_right _ (List.mem_singleton.mpr rfl)))
theorem Wk.all {r : List Nat} {v : Nat} (h : Wk ways S r v) : Rch ways S (fun _ => False) v := h.rch fun _ _ z => z
/-- the part of a road up to one of its places is a road -/
theorem Wk.part : ∀ {r : List Nat} {v : Nat}, Wk ways S r v → ∀ {j o : Nat}, r[j]? = some o → Wk ways S (r.take (j + 1)) o
  | _, v, .one m, j, o, h => by
    have hj := (List.getElem?_eq_some_iff.mp h).1
    rw [List.length_singleton] at hj
    have e : j = 0 := by omega
    subst e
    cases h
    exact .one m
  | _, v, .snoc (r := r) w m, j, o, h => by
    by_cases hj : j < r.length
    · rw [List.getElem?_append_left hj] at h
      rw [List.take_append_of_le_length (by omega)]
      exact w.part h
    · have h2 := (List.getElem?_eq_some_iff.mp h).1
      rw [List.length_append, List.length_singleton] at h2
      have e : j = r.length := by omega
      subst e
      rw [List.getElem?_append_right (Nat.le_refl _), Nat.sub_self] at h
      cases h
      rw [List.take_of_length_le (by rw [List.length_append, List.length_singleton]; omega)]
      exact .snoc w m
/-- what no way around leads to the end is on every road to the end -/
theorem Wk.mem {r : List Nat} {E c : Nat} (h : Wk ways S r E) (hc : ¬ Rch ways S (fun x => x = c) E) : c ∈ r := by
  by_cases e : c ∈ r
  · exact e
  · exact absurd (h.rch (B := fun x => x = c) fun x hx z => e (z ▸ hx)) hc
/-- the first of the common rows is on a road ahead of the others -/
theorem Wk.ahead {r : List Nat} {E c o j k : Nat} (h : Wk ways S r E) (hne : ¬ Rch ways S (fun x => x = c) o) (ho : r[j]? = some o) (hk : ∀ m x, m < k → r[m]? = some x → x ≠ c) : k ≤ j := by
  by_cases e : k ≤ j
  · exact e
  · refine absurd ((h.part ho).rch fun x hx z => ?_) hne
    obtain ⟨m, hm⟩ := List.getElem?_of_mem hx
    have hm2 := (List.getElem?_eq_some_iff.mp hm).1
    rw [List.length_take] at hm2
    rw [List.getElem?_take_of_lt (by omega)] at hm
    exact hk m x (by omega) hm z
/-- on the way to the end one of the common rows is the first that is come to -/
theorem Rch.meet {C : List Nat} : ∀ {v : Nat}, Rch ways S (fun _ => False) v → Rch ways S (fun x => x ∈ C) v ∨ ∃ r, r ∈ C ∧ Rch ways S (fun x => x ∈ C ∧ x ≠ r) r
  | v, .base m _ => by
    by_cases e : v ∈ C
    · exact .inr ⟨v, e, .base m fun z => z.2 rfl⟩
    · exact .inl (.base m e)
  | v, .step r m _ => by
    rcases Rch.meet (C := C) r with h | h
    · by_cases e : v ∈ C
      · exact .inr ⟨v, e, .step (h.mono fun x z => z.1) m fun z => z.2 rfl⟩
      · exact .inl (.step h m e)
    · exact .inr h
/-- the place of the first of a kind in a list -/
theorem first_at {p : Nat → Prop} : ∀ {l : List Nat} {x : Nat}, x ∈ l → p x → ∃ (k y : Nat), l[k]? = some y ∧ p y ∧ ∀ m z, m < k → l[m]? = some z → ¬ p z
  | a :: l, x, hx, hp => by
    by_cases e : p a
    · exact ⟨0, a, rfl, e, fun m z h => by omega⟩
    · rcases List.mem_cons.mp hx with h | h
      · exact absurd (h ▸ hp) e
      · obtain ⟨k, y, h1, h2, h3⟩ := first_at h hp
        refine ⟨k + 1, y, h1, h2, fun m z hm hz => ?_⟩
        cases m with
        | zero =>
          cases hz
          exact e
        | succ m => exact h3 m z (by omega) hz
end
end XX

namespace XX
theorem Sb.eqv {ways : Nat → List Nat} {S fs ls ls' : List Nat} {B : Nat → Bool} (h : ∀ v, v ∈ ls ↔ v ∈ ls') (k : Sb ways S B fs ls) : Sb ways S B fs ls' :=
  ⟨k.nd, k.r, fun v hv => k.src v ((h v).mpr hv), fun v hb hv => (k.cl v hb hv).imp id fun z => (h v).mp z⟩
theorem Sb.front {ways : Nat → List Nat} {S fs ls : List Nat} {B : Nat → Bool} {v : Nat} (k : Sb ways S B fs (v :: ls)) : Sb ways S B fs (ls ++ [v]) := k.eqv fun w => by
  rw [List.mem_append, List.mem_cons, List.mem_singleton]
  exact or_comm
theorem Sb.here {ways : Nat → List Nat} {S fs ls : List Nat} {B : Nat → Bool} {v : Nat} (k : Sb ways S B fs ls) (h : v ∈ ls) : Rch ways S (fun x => B x = true) v := by
  obtain ⟨hb, hs⟩ := k.src v h
  have hn : ¬ B v = true := by
    rw [hb]
    exact Bool.false_ne_true
  rcases hs with a | ⟨u, a, b⟩
  · exact .base a hn
  · exact .step (k.r u a) b hn
end XX


set_option maxRecDepth 100000
set_option maxHeartbeats 4000000
namespace YY
open PySem PySem.Spec PyProof.Rows L2 XX
local macro_rules | `(tactic| walk_at "wp") => `(tactic| simp only [Int.zero_add, L2.start, LcEnd, List.append_nil, List.cons.injEq, List.cons_append, List.getElem?_cons_succ, List.getElem?_cons_zero, List.length_cons, List.length_nil, List.map_cons, List.map_nil, List.nil_append, List.replicate, List.replicate_succ, List.replicate_zero, List.set_cons_succ, List.set_cons_zero, Nat.reduceAdd, Nat.reduceSub, Option.some.injEq, StX.tMakeR, StX.tStar, V.bl.injEq, V.int.injEq, V.ref.injEq, V.str.injEq, V.ty.injEq, WE, and_assoc, and_false, and_true, bool_ite_false, bool_ite_true, cxOf_K, cxOf_noxK, dec_ite, decide_eq_true_eq, exists_and_left, exists_and_right, exists_const, exists_eq_left, exists_eq_left', false_and, false_or, gCons, gName, gNil, gSub, gTup, iEnumA, iItems, iKeys, iList, iRng1, iRng2, iStr, iTup, iZipB, ite_false, ite_true, ndec_ite, or_false, rAppend, rCat, rCatT, rEq, rEqI, rEqK, rEqV, rExt2, rI, rI0, rIn, rInRg, rIndex, rIsD, rIsE, rIsE2, rIxD, rIxL, rIxS, rIxT, rLenI, rLenK, rListStr, rMax, rMaxDef, rSetIM, rEqT, sFldAug, rAdd, rMin, rMulS, rNe, rNeDA, rNeV, rRange1, rRep, rRepA, rReprE, rReprI, rSetD, rSetI, rSetL, rSlL, rSlT, rSortedSet, rU, reduceCtorEq, reduceIte, sFld, tAnd, tAndV, tAsg, tAug, tB, tBM, tBM0, tC, tCB, tCKw, tDGetT, tCall, tCallS, tChain, tCons, tDGet, tDIn, tDNewK, tDNotIn, tDcT_eq, tDc_eq, tDisp, tDrop, tErr, tFld, tFor_eq, tIf, tIfS, tIxI, tLc2_eq, tLc_eq, tLenSetS, tLock, tLockE, tLst, tLstRg, tM1, tMakeRS, tMakeS, tMakeV, tMakeVS, tMeth, tMethX, tMkO, tMulA, tMulD, tNext, tNil, tNoPart, tNot, tNotV, tOp, tOpI, tOpR, tOr, tOrV, tOst, tPairs, tPar, tPar3, tPart, tRet, tRetN, tRevT, tRg2, tSMeth, tSeq, tSl, tTest, tTup, tUn, tVar, tVeI, tXf, tYes, true_and, wAs, wMA, wipe, tXi, tOstX, tMakeX, tFldX, rIsiX])
abbrev sInit0 : Stmt := inClass (topS 2) 0
abbrev sInit1 : Stmt := inClass (topS 25) 0
abbrev sInit2 : Stmt := inClass (topS 28) 0
abbrev sInit3 : Stmt := inClass (topS 29) 0
/-- an __init__ that keeps one value -/
def spErrX (K : PySem.W.Frag) (T : String) : Sp := fun vs H Q _ => ∃ (a C : Addr) (v : V) (B newId : String), vs = [.ref a, v] ∧ XCls K B T newId C ∧ PySem.W.findIn K (.ref C) "value" = some none ∧ H a = some (exo a C none) ∧
  ∀ dx, H dx = none → dx ≠ a → Q .non (upd (upd H dx (exd dx [("value", v)])) a (exo a C (some dx)))
section
variable {P : Program} {w : World} {K : PySem.W.Frag} {mg : Str → Option Value} {base : Heap}
theorem scInit0 : FnScope ["self", "value"] ["self", "value"] (defScope sInit0) := ⟨rfl, rfl, rfl, by decide +kernel, rfl, by decide +kernel, by decide +kernel⟩
theorem scInit1 : FnScope ["self", "value"] ["self", "value"] (defScope sInit1) := ⟨rfl, rfl, rfl, by decide +kernel, rfl, by decide +kernel, by decide +kernel⟩
theorem scInit2 : FnScope ["self", "value"] ["self", "value"] (defScope sInit2) := ⟨rfl, rfl, rfl, by decide +kernel, rfl, by decide +kernel, by decide +kernel⟩
theorem scInit3 : FnScope ["self", "value"] ["self", "value"] (defScope sInit3) := ⟨rfl, rfl, rfl, by decide +kernel, rfl, by decide +kernel, by decide +kernel⟩
/-- the message -/
def Msg (mg : Str → Option Value) : Prop := ∃ tk, mg "_MESSAGE" = some (.str "the attribute value tells what this is about" tk)
theorem typ_KE : typeOf (.type "KeyError") = pure (.type "type") := by kernel_rfl
theorem typ_OE : typeOf (.type "OverflowError") = pure (.type "type") := by kernel_rfl
theorem boot_KE : bootBuiltins "KeyError" = some (.type "KeyError") := PyProof.Rows.Boot.«KeyError»
theorem boot_OE : bootBuiltins "OverflowError" = some (.type "OverflowError") := PyProof.Rows.Boot.«OverflowError»
theorem c_init0 {fI : Addr} {fd : FuncData} (F : L2.Fun K "__init__" "LanesError.__init__" sInit0 fI fd) (nV : mg "ValueError" = none) (gM : Msg mg)
    (vV : PySem.W.findCls K (.type "ValueError") (.type "type") "__init__" = some (.val (.builtin "ValueError.__init__"))) : FnOk P w K mg base CX0 1 fI fd ["self", "value"] (spErrX K "ValueError") := by
  obtain ⟨tk, gM⟩ := gM
  refine F.ok scInit0 (fun vs H Q E h => ?_) (fun cdv A outer s H vs Q E hr h => ?_)
  · obtain ⟨a, C, v, B, newId, rfl, _⟩ := h
    rfl
  · obtain ⟨a, C, v, B, newId, rfl, T1, no, ha, k⟩ := h
    have sc := scInit0
    refine ⟨_, (pss_cons (ps_expr (pe_xinit (T := "ValueError") (PySem.HandSPX.ini_of PySem.F.excCall_ValueError) (by rfl) nV PyProof.Rows.Boot.«ValueError» PySem.OEX.typ_VE (by decide +kernel) vV (by decide +kernel) (by decide) (by decide) (pa_cons (pv 0) (pa_cons (pe_glob (v := .str "the attribute value tells what this is about") rfl gM ⟨_, rfl⟩) pa_nil)) (by rfl)))
      (pss_one (ps_ostX (pv 0) (pv 1) (by rfl)))), ?_⟩
    walk_at "wp"
    exact ⟨by decide, C, ⟨B, newId, T1⟩, ha, C, ⟨B, _, newId, T1⟩, no, ha, fun dx h1 h2 => k dx h1 h2⟩
theorem c_init1 {fI : Addr} {fd : FuncData} (F : L2.Fun K "__init__" "Absent.__init__" sInit1 fI fd) (nV : mg "KeyError" = none) (gM : Msg mg)
    (vV : PySem.W.findCls K (.type "KeyError") (.type "type") "__init__" = some (.val (.builtin "KeyError.__init__"))) : FnOk P w K mg base CX0 1 fI fd ["self", "value"] (spErrX K "KeyError") := by
  obtain ⟨tk, gM⟩ := gM
  refine F.ok scInit1 (fun vs H Q E h => ?_) (fun cdv A outer s H vs Q E hr h => ?_)
  · obtain ⟨a, C, v, B, newId, rfl, _⟩ := h
    rfl
  · obtain ⟨a, C, v, B, newId, rfl, T1, no, ha, k⟩ := h
    have sc := scInit1
    refine ⟨_, (pss_cons (ps_expr (pe_xinit (T := "KeyError") PySem.HandSPX.ini_KeyError (by rfl) nV boot_KE typ_KE (by decide +kernel) vV (by decide +kernel) (by decide) (by decide) (pa_cons (pv 0) (pa_cons (pe_glob (v := .str "the attribute value tells what this is about") rfl gM ⟨_, rfl⟩) pa_nil)) (by rfl)))
      (pss_one (ps_ostX (pv 0) (pv 1) (by rfl)))), ?_⟩
    walk_at "wp"
    exact ⟨by decide, C, ⟨B, newId, T1⟩, ha, C, ⟨B, _, newId, T1⟩, no, ha, fun dx h1 h2 => k dx h1 h2⟩
theorem c_init2 {fI : Addr} {fd : FuncData} (F : L2.Fun K "__init__" "TooLarge.__init__" sInit2 fI fd) (nV : mg "OverflowError" = none) (gM : Msg mg)
    (vV : PySem.W.findCls K (.type "OverflowError") (.type "type") "__init__" = some (.val (.builtin "OverflowError.__init__"))) : FnOk P w K mg base CX0 1 fI fd ["self", "value"] (spErrX K "OverflowError") := by
  obtain ⟨tk, gM⟩ := gM
  refine F.ok scInit2 (fun vs H Q E h => ?_) (fun cdv A outer s H vs Q E hr h => ?_)
  · obtain ⟨a, C, v, B, newId, rfl, _⟩ := h
    rfl
  · obtain ⟨a, C, v, B, newId, rfl, T1, no, ha, k⟩ := h
    have sc := scInit2
    refine ⟨_, (pss_cons (ps_expr (pe_xinit (T := "OverflowError") (PySem.HandSPX.ini_of PySem.F.excCall_OverflowError) (by rfl) nV boot_OE typ_OE (by decide +kernel) vV (by decide +kernel) (by decide) (by decide) (pa_cons (pv 0) (pa_cons (pe_glob (v := .str "the attribute value tells what this is about") rfl gM ⟨_, rfl⟩) pa_nil)) (by rfl)))
      (pss_one (ps_ostX (pv 0) (pv 1) (by rfl)))), ?_⟩
    walk_at "wp"
    exact ⟨by decide, C, ⟨B, newId, T1⟩, ha, C, ⟨B, _, newId, T1⟩, no, ha, fun dx h1 h2 => k dx h1 h2⟩
theorem c_init3 {fI : Addr} {fd : FuncData} (F : L2.Fun K "__init__" "TooMany.__init__" sInit3 fI fd) (nV : mg "OverflowError" = none) (gM : Msg mg)
    (vV : PySem.W.findCls K (.type "OverflowError") (.type "type") "__init__" = some (.val (.builtin "OverflowError.__init__"))) : FnOk P w K mg base CX0 1 fI fd ["self", "value"] (spErrX K "OverflowError") := by
  obtain ⟨tk, gM⟩ := gM
  refine F.ok scInit3 (fun vs H Q E h => ?_) (fun cdv A outer s H vs Q E hr h => ?_)
  · obtain ⟨a, C, v, B, newId, rfl, _⟩ := h
    rfl
  · obtain ⟨a, C, v, B, newId, rfl, T1, no, ha, k⟩ := h
    have sc := scInit3
    refine ⟨_, (pss_cons (ps_expr (pe_xinit (T := "OverflowError") (PySem.HandSPX.ini_of PySem.F.excCall_OverflowError) (by rfl) nV boot_OE typ_OE (by decide +kernel) vV (by decide +kernel) (by decide) (by decide) (pa_cons (pv 0) (pa_cons (pe_glob (v := .str "the attribute value tells what this is about") rfl gM ⟨_, rfl⟩) pa_nil)) (by rfl)))
      (pss_one (ps_ostX (pv 0) (pv 1) (by rfl)))), ?_⟩
    walk_at "wp"
    exact ⟨by decide, C, ⟨B, newId, T1⟩, ha, C, ⟨B, _, newId, T1⟩, no, ha, fun dx h1 h2 => k dx h1 h2⟩
/-! ### an exception that bears a value -/
def ExtH (H H' : Hp) : Prop := ∀ b o, H b = some o → H' b = some o
theorem ExtH.refl {H : Hp} : ExtH H H := fun _ _ h => h
theorem ExtH.trans {H H1 H2 : Hp} (a : ExtH H H1) (b : ExtH H1 H2) : ExtH H H2 := fun x o h => b x o (a x o h)
theorem ExtH.new {H : Hp} {p : Addr} {o : HO} (h : H p = none) : ExtH H (upd H p o) := fun b u e => by rw [upd_ne (ne_of_none e h)]; exact e
structure OneAt (K : PySem.W.Frag) (H : Hp) (a C : Addr) (v : V) : Prop where
  ex : ∃ (dx : Addr) (B T newId : String), XCls K B T newId C ∧ PySem.W.findIn K (.ref C) "value" = some none ∧ H a = some (exo a C (some dx)) ∧ H dx = some (exd dx [("value", v)])
theorem OneAt.mono {H H' : Hp} {a C : Addr} {v : V} (h : OneAt K H a C v) (x : ExtH H H') : OneAt K H' a C v := by
  obtain ⟨dx, B, T, n, h1, h2, h3, h4⟩ := h
  exact ⟨dx, B, T, n, h1, h2, x _ _ h3, x _ _ h4⟩
/-- C(e) -/
def tOne (K : PySem.W.Frag) (C : Addr) (te : TE) : TE := fun σ H Q => te σ H fun v H1 => ∀ a H2, ExtH H1 H2 → OneAt K H2 a C v → Q (.ref a) H2
theorem one_run {T B newId : String} {C a : Addr} {v : V} {H : Hp} {Q : VK} (T1 : XCls K B T newId C) (no : PySem.W.findIn K (.ref C) "value" = some none) (ha : H a = none) (q : ∀ a H2, ExtH H H2 → OneAt K H2 a C v → Q (.ref a) H2) :
    spErrX K T [.ref a, v] (upd H a (exo a C none)) (fun v' H3 => v' = .non ∧ Q (.ref a) H3) (fun _ _ _ => False) := by
  refine ⟨a, C, v, B, newId, rfl, T1, no, upd_same, fun dx hd hne => ⟨rfl, q a _ (fun b o e => ?_) ⟨dx, B, T, newId, T1, no, upd_same, by rw [upd_ne hne, upd_same]⟩⟩⟩
  have h1 : b ≠ a := ne_of_none e ha
  have h2 : b ≠ dx := fun z => by
    rw [z] at e
    rw [upd_ne hne, e] at hd
    cases hd
  rw [upd_ne h1, upd_ne h2, upd_ne h1]
  exact e
section
variable {X : Cx} {x : Str} {T B newId : String} {C fI : Addr} {fd : FuncData} {e : Expr} {te : TE} {p pos kp : Pos}
theorem pe_one (T1 : XCls X.K B T newId C) (no : PySem.W.findIn X.K (.ref C) "value" = some none) (iC : PySem.W.findIn X.K (.ref C) "__init__" = some (some (.ref fI))) (tI : PySem.W.typeIn X.K (.ref fI) = some (.type "function"))
    (F1 : FnOk X.prog X.w X.K X.mg X.base CX0 1 fI fd ["self", "value"] (spErrX X.K T)) (hb : Binds X.K fd ["self", "value"] []) (hr : Room 2 X.A) (hg : Gl X x) (hm : X.mg x = some (.ref C)) (he : PE X e te)
    (hdb : (x == ("__debug__" : Str)) = false := by decide) (hs : starEach [e] X.env = (false, eval e X.env) :: starEach [] X.env := by rfl) (hpl : (backTo pos (starEach [] X.env)).any (·.1) = false := by rfl) :
    PE X (.Call (.Name x p) [e] [] pos) (tOne X.K C te) := by
  have z := pe_makeX T1 iC tI F1 hr (kbn_pos hb) pass0 hg hm (pa_cons (pe_mono he) pa_nil hs) hdb hs hpl (p := p)
  refine ⟨fun pins s σ H Q I h => z.run pins s σ H Q I ?_⟩
  refine ⟨_, h, fun v H1 q => ?_⟩
  exact ⟨rfl, rfl, by show 1 ≤ 1000; decide, fun a ha => one_run T1 no ha q⟩
theorem pe_oneK (T1 : XCls X.K B T newId C) (no : PySem.W.findIn X.K (.ref C) "value" = some none) (iC : PySem.W.findIn X.K (.ref C) "__init__" = some (some (.ref fI))) (tI : PySem.W.typeIn X.K (.ref fI) = some (.type "function"))
    (F1 : FnOk X.prog X.w X.K X.mg X.base CX0 1 fI fd ["self", "value"] (spErrX X.K T)) (hb : KBn X.K fd ["self", "value"] 1 ["value"] (fun us ws => us ++ ws) (fun vs zs => vs ++ zs)) (hr : Room 2 X.A) (hg : Gl X x) (hm : X.mg x = some (.ref C)) (he : PE X e te)
    (hall : (backToKw pos (keywordEach [⟨some "value", e, kp⟩] X.env)).all (·.1.isSome) = true := by rfl) (hks : (backToKw pos (keywordEach [⟨some "value", e, kp⟩] X.env)).filterMap (·.1) = (["value"] : List Str) := by rfl) (hdb : (x == ("__debug__" : Str)) = false := by decide)
    (hpl : ((backTo pos (starEach [] X.env)).any (·.1) || (backToKw pos (keywordEach [⟨some "value", e, kp⟩] X.env)).any (·.1.isNone)) = false := by rfl) :
    PE X (.Call (.Name x p) [] [⟨some "value", e, kp⟩] pos) (tOne X.K C te) := by
  have z := pe_makeXK0 T1 iC tI F1 hr hb pass0 hg hm (pk_cons (pe_mono he) pk_nil) hall hks hdb hpl (p := p)
  refine ⟨fun pins s σ H Q I h => z.run pins s σ H Q I ?_⟩
  refine ⟨_, h, fun v H1 q => ?_⟩
  exact ⟨rfl, rfl, Nat.zero_le _, fun a ha => one_run T1 no ha q⟩
end
end

end YY

set_option maxRecDepth 100000
set_option maxHeartbeats 4000000
namespace YY
open PySem PySem.Spec PyProof.Rows L2 XX
local macro_rules | `(tactic| walk_at "wp") => `(tactic| simp only [Int.zero_add, L2.start, LcEnd, List.append_nil, List.cons.injEq, List.cons_append, List.getElem?_cons_succ, List.getElem?_cons_zero, List.length_cons, List.length_nil, List.map_cons, List.map_nil, List.nil_append, List.replicate, List.replicate_succ, List.replicate_zero, List.set_cons_succ, List.set_cons_zero, Nat.reduceAdd, Nat.reduceSub, Option.some.injEq, StX.tMakeR, StX.tStar, V.bl.injEq, V.int.injEq, V.ref.injEq, V.str.injEq, V.ty.injEq, WE, and_assoc, and_false, and_true, bool_ite_false, bool_ite_true, cxOf_K, cxOf_noxK, dec_ite, decide_eq_true_eq, exists_and_left, exists_and_right, exists_const, exists_eq_left, exists_eq_left', false_and, false_or, gCons, gName, gNil, gSub, gTup, iEnumA, iItems, iKeys, iList, iRng1, iRng2, iStr, iTup, iZipB, ite_false, ite_true, ndec_ite, or_false, rAppend, rCat, rCatT, rEq, rEqI, rEqK, rEqV, rExt2, rI, rI0, rIn, rInRg, rIndex, rIsD, rIsE, rIsE2, rIxD, rIxL, rIxS, rIxT, rLenI, rLenK, rListStr, rMax, rMaxDef, rSetIM, rEqT, sFldAug, rAdd, rMin, rMulS, rNe, rNeDA, rNeV, rRange1, rRep, rRepA, rReprE, rReprI, rSetD, rSetI, rSetL, rSlL, rSlT, rSortedSet, rU, reduceCtorEq, reduceIte, sFld, tAnd, tAndV, tAsg, tAug, tB, tBM, tBM0, tC, tCB, tCKw, tDGetT, tCall, tCallS, tChain, tCons, tDGet, tDIn, tDNewK, tDNotIn, tDcT_eq, tDc_eq, tDisp, tDrop, tErr, tFld, tFor_eq, tIf, tIfS, tIxI, tLc2_eq, tLc_eq, tLenSetS, tLock, tLockE, tLst, tLstRg, tM1, tMakeRS, tMakeS, tMakeV, tMakeVS, tMeth, tMethX, tMkO, tMulA, tMulD, tNext, tNil, tNoPart, tNot, tNotV, tOp, tOpI, tOpR, tOr, tOrV, tOst, tPairs, tPar, tPar3, tPart, tRet, tRetN, tRevT, tRg2, tSMeth, tSeq, tSl, tTest, tTup, tUn, tVar, tVeI, tXf, tYes, true_and, wAs, wMA, wipe, tXi, tOstX, tMakeX, tFldX, rIsiX, tOne])
abbrev sMade : Stmt := topS 33
abbrev sMarks : Stmt := topS 34
def xNames : List Str := ["BadRegisters", "BadNumber", "BadRow", "BadRows", "BadJoins", "BadProgram", "BadRule", "BadData", "BadText", "BadKind", "BadMachine", "NotNested", "NotPlain", "BadBlock", "BadState", "BadPromise", "BadPaper", "BadLine", "NoLane", "NoScene", "TooLarge", "TooMany", "Guarded", "Unlike", "BadEdits", "BadKeeper"]
/-- an exception's class x at C, its own __init__ keeps one value -/
structure OneC (P : Program) (w : World) (K : PySem.W.Frag) (mg : Str → Option Value) (base : Heap) (x : Str) (C : Addr) : Prop where
  ex : ∃ (B T newId : String) (fI : Addr) (fd : FuncData), XCls K B T newId C ∧ PySem.W.findIn K (.ref C) "value" = some none ∧ PySem.W.findIn K (.ref C) "__init__" = some (some (.ref fI)) ∧ PySem.W.typeIn K (.ref fI) = some (.type "function") ∧
    FnOk P w K mg base CX0 1 fI fd ["self", "value"] (spErrX K T) ∧ Binds K fd ["self", "value"] [] ∧ KBn K fd ["self", "value"] 1 ["value"] (fun us ws => us ++ ws) (fun vs zs => vs ++ zs)
  g : mg x = some (.ref C)
section
variable {X : Cx} {x : Str} {C : Addr} {e : Expr} {te : TE} {p pos kp : Pos}
theorem pe_oneC (O : OneC X.prog X.w X.K X.mg X.base x C) (hr : Room 2 X.A) (hg : Gl X x) (he : PE X e te)
    (hdb : (x == ("__debug__" : Str)) = false := by decide) (hs : starEach [e] X.env = (false, eval e X.env) :: starEach [] X.env := by rfl) (hpl : (backTo pos (starEach [] X.env)).any (·.1) = false := by rfl) :
    PE X (.Call (.Name x p) [e] [] pos) (tOne X.K C te) := by
  obtain ⟨B, T, newId, fI, fd, h1, h2, h3, h4, h5, h6, h7⟩ := O.ex
  exact pe_one h1 h2 h3 h4 h5 h6 hr hg O.g he hdb hs hpl
theorem pe_oneCK (O : OneC X.prog X.w X.K X.mg X.base x C) (hr : Room 2 X.A) (hg : Gl X x) (he : PE X e te)
    (hall : (backToKw pos (keywordEach [⟨some "value", e, kp⟩] X.env)).all (·.1.isSome) = true := by rfl) (hks : (backToKw pos (keywordEach [⟨some "value", e, kp⟩] X.env)).filterMap (·.1) = (["value"] : List Str) := by rfl) (hdb : (x == ("__debug__" : Str)) = false := by decide)
    (hpl : ((backTo pos (starEach [] X.env)).any (·.1) || (backToKw pos (keywordEach [⟨some "value", e, kp⟩] X.env)).any (·.1.isNone)) = false := by rfl) :
    PE X (.Call (.Name x p) [] [⟨some "value", e, kp⟩] pos) (tOne X.K C te) := by
  obtain ⟨B, T, newId, fI, fd, h1, h2, h3, h4, h5, h6, h7⟩ := O.ex
  exact pe_oneK h1 h2 h3 h4 h5 h7 hr hg O.g he hall hks hdb hpl
end
section
variable {P : Program} {w : World} {K : PySem.W.Frag} {mg : Str → Option Value} {base : Heap}
/-! ### _law_made -/
theorem list27 {cs : List Addr} (h : cs.length = 27) : ∃ c0 c1 c2 c3 c4 c5 c6 c7 c8 c9 c10 c11 c12 c13 c14 c15 c16 c17 c18 c19 c20 c21 c22 c23 c24 c25 c26 : Addr, cs = [c0, c1, c2, c3, c4, c5, c6, c7, c8, c9, c10, c11, c12, c13, c14, c15, c16, c17, c18, c19, c20, c21, c22, c23, c24, c25, c26] := by
  rcases cs with _ | ⟨c0, cs⟩
  · cases h
  rcases cs with _ | ⟨c1, cs⟩
  · cases h
  rcases cs with _ | ⟨c2, cs⟩
  · cases h
  rcases cs with _ | ⟨c3, cs⟩
  · cases h
  rcases cs with _ | ⟨c4, cs⟩
  · cases h
  rcases cs with _ | ⟨c5, cs⟩
  · cases h
  rcases cs with _ | ⟨c6, cs⟩
  · cases h
  rcases cs with _ | ⟨c7, cs⟩
  · cases h
  rcases cs with _ | ⟨c8, cs⟩
  · cases h
  rcases cs with _ | ⟨c9, cs⟩
  · cases h
  rcases cs with _ | ⟨c10, cs⟩
  · cases h
  rcases cs with _ | ⟨c11, cs⟩
  · cases h
  rcases cs with _ | ⟨c12, cs⟩
  · cases h
  rcases cs with _ | ⟨c13, cs⟩
  · cases h
  rcases cs with _ | ⟨c14, cs⟩
  · cases h
  rcases cs with _ | ⟨c15, cs⟩
  · cases h
  rcases cs with _ | ⟨c16, cs⟩
  · cases h
  rcases cs with _ | ⟨c17, cs⟩
  · cases h
  rcases cs with _ | ⟨c18, cs⟩
  · cases h
  rcases cs with _ | ⟨c19, cs⟩
  · cases h
  rcases cs with _ | ⟨c20, cs⟩
  · cases h
  rcases cs with _ | ⟨c21, cs⟩
  · cases h
  rcases cs with _ | ⟨c22, cs⟩
  · cases h
  rcases cs with _ | ⟨c23, cs⟩
  · cases h
  rcases cs with _ | ⟨c24, cs⟩
  · cases h
  rcases cs with _ | ⟨c25, cs⟩
  · cases h
  rcases cs with _ | ⟨c26, cs⟩
  · cases h
  rcases cs with _ | ⟨c27, cs⟩
  · exact ⟨c0, c1, c2, c3, c4, c5, c6, c7, c8, c9, c10, c11, c12, c13, c14, c15, c16, c17, c18, c19, c20, c21, c22, c23, c24, c25, c26, rfl⟩
  · cases h
def spMade (K : PySem.W.Frag) (cs : List Addr) : Sp := fun vs H Q _ => ∃ v, vs = [v] ∧ ∀ (p : Addr) (rs : List Addr) H', ExtH H H' → H' p = some (.lst (rs.map V.ref)) → Paired (fun C r => OneAt K H' r C v) (cs.take 26) rs → Q (.ref p) H'
theorem scMade : FnScope ["thing", "found"] ["thing"] (defScope sMade) := ⟨rfl, rfl, rfl, by decide +kernel, rfl, by decide +kernel, by decide +kernel⟩
theorem c_made {cs : List Addr} (D : Def K mg "_law_made" sMade ["thing"]) (hcs : cs.length = 27) (O : ∀ i, i < 26 → OneC P w K mg base (xNames.getD i "") (cs.getD i 0)) : FnC P w K mg base CX0 3 "_law_made" ["thing"] (spMade K cs) := by
  refine D.ok scMade (fun vs H Q E h => ?_) (fun f cdv A outer s H vs Q E hr h => ?_)
  · obtain ⟨v, rfl, _⟩ := h
    rfl
  · obtain ⟨v, rfl, k⟩ := h
    have sc := scMade
    have hr2 : Room 2 _ := hr
    refine ⟨_, (pss_cons (ps_set (i := 1) sc.nd rfl (Or.inl rfl) (pe_lst (pa_cons (pe_oneC (O 0 (by decide)) hr2 (by rfl) (pv 0)) (pa_cons (pe_oneC (O 1 (by decide)) hr2 (by rfl) (pv 0)) (pa_cons (pe_oneC (O 2 (by decide)) hr2 (by rfl) (pv 0)) (pa_cons (pe_oneC (O 3 (by decide)) hr2 (by rfl) (pv 0)) (pa_cons (pe_oneC (O 4 (by decide)) hr2 (by rfl) (pv 0)) (pa_cons (pe_oneC (O 5 (by decide)) hr2 (by rfl) (pv 0)) pa_nil))))))))
    (pss_cons (ps_set (i := 1) sc.nd rfl (Or.inl rfl) (pe_op op_cat (pv 1) (pe_lst (pa_cons (pe_oneC (O 6 (by decide)) hr2 (by rfl) (pv 0)) (pa_cons (pe_oneC (O 7 (by decide)) hr2 (by rfl) (pv 0)) (pa_cons (pe_oneC (O 8 (by decide)) hr2 (by rfl) (pv 0)) (pa_cons (pe_oneC (O 9 (by decide)) hr2 (by rfl) (pv 0)) (pa_cons (pe_oneC (O 10 (by decide)) hr2 (by rfl) (pv 0)) pa_nil))))))))
    (pss_cons (ps_set (i := 1) sc.nd rfl (Or.inl rfl) (pe_op op_cat (pv 1) (pe_lst (pa_cons (pe_oneC (O 11 (by decide)) hr2 (by rfl) (pv 0)) (pa_cons (pe_oneCK (O 12 (by decide)) hr2 (by rfl) (pv 0)) (pa_cons (pe_oneCK (O 13 (by decide)) hr2 (by rfl) (pv 0)) (pa_cons (pe_oneCK (O 14 (by decide)) hr2 (by rfl) (pv 0)) pa_nil)))))))
    (pss_cons (ps_set (i := 1) sc.nd rfl (Or.inl rfl) (pe_op op_cat (pv 1) (pe_lst (pa_cons (pe_oneCK (O 15 (by decide)) hr2 (by rfl) (pv 0)) (pa_cons (pe_oneC (O 16 (by decide)) hr2 (by rfl) (pv 0)) (pa_cons (pe_oneCK (O 17 (by decide)) hr2 (by rfl) (pv 0)) (pa_cons (pe_oneC (O 18 (by decide)) hr2 (by rfl) (pv 0)) pa_nil)))))))
    (pss_cons (ps_set (i := 1) sc.nd rfl (Or.inl rfl) (pe_op op_cat (pv 1) (pe_lst (pa_cons (pe_oneCK (O 19 (by decide)) hr2 (by rfl) (pv 0)) (pa_cons (pe_oneCK (O 20 (by decide)) hr2 (by rfl) (pv 0)) (pa_cons (pe_oneCK (O 21 (by decide)) hr2 (by rfl) (pv 0)) pa_nil))))))
    (pss_one (ps_ret (pe_op op_cat (pv 1) (pe_lst (pa_cons (pe_oneC (O 22 (by decide)) hr2 (by rfl) (pv 0)) (pa_cons (pe_oneCK (O 23 (by decide)) hr2 (by rfl) (pv 0)) (pa_cons (pe_oneC (O 24 (by decide)) hr2 (by rfl) (pv 0)) (pa_cons (pe_oneCK (O 25 (by decide)) hr2 (by rfl) (pv 0)) pa_nil))))))))))))), ?_⟩
    walk_at "wp"
    have hz : ∀ n : Nat, n ≤ 100 → n ≤ sizeLine := fun n hn => by rw [sizeLine_eq]; omega
    intro a0 H0 x0 o0 a1 H1 x1 o1 a2 H2 x2 o2 a3 H3 x3 o3 a4 H4 x4 o4 a5 H5 x5 o5
    refine ⟨hz _ (by decide), fun p0 hp0 => ?_⟩
    have y0 := ExtH.new (o := HO.lst [V.ref a0, V.ref a1, V.ref a2, V.ref a3, V.ref a4, V.ref a5]) hp0
    have l0 := upd_same (H := H5) (a := p0) (o := HO.lst [V.ref a0, V.ref a1, V.ref a2, V.ref a3, V.ref a4, V.ref a5])
    revert y0 l0
    generalize upd H5 p0 (HO.lst [V.ref a0, V.ref a1, V.ref a2, V.ref a3, V.ref a4, V.ref a5]) = G0
    intro y0 l0
    intro a6 H6 x6 o6 a7 H7 x7 o7 a8 H8 x8 o8 a9 H9 x9 o9 a10 H10 x10 o10
    refine ⟨hz _ (by decide), fun p1 hp1 => ?_⟩
    have y1 := ExtH.new (o := HO.lst [V.ref a6, V.ref a7, V.ref a8, V.ref a9, V.ref a10]) hp1
    have l1 := upd_same (H := H10) (a := p1) (o := HO.lst [V.ref a6, V.ref a7, V.ref a8, V.ref a9, V.ref a10])
    revert y1 l1
    generalize upd H10 p1 (HO.lst [V.ref a6, V.ref a7, V.ref a8, V.ref a9, V.ref a10]) = G1
    intro y1 l1
    refine ⟨_, (y1 _ _ (x10 _ _ (x9 _ _ (x8 _ _ (x7 _ _ (x6 _ _ l0)))))), _, l1, hz _ (by simp only [List.length_cons, List.length_nil]; decide), fun q1 hq1 => ?_⟩
    have z1 := ExtH.new (o := HO.lst [V.ref a0, V.ref a1, V.ref a2, V.ref a3, V.ref a4, V.ref a5, V.ref a6, V.ref a7, V.ref a8, V.ref a9, V.ref a10]) hq1
    have n1 : upd G1 q1 (HO.lst [V.ref a0, V.ref a1, V.ref a2, V.ref a3, V.ref a4, V.ref a5, V.ref a6, V.ref a7, V.ref a8, V.ref a9, V.ref a10]) q1 = some (.lst [V.ref a0, V.ref a1, V.ref a2, V.ref a3, V.ref a4, V.ref a5, V.ref a6, V.ref a7, V.ref a8, V.ref a9, V.ref a10]) := upd_same
    revert z1 n1
    simp only [List.cons_append, List.nil_append]
    generalize upd G1 q1 (HO.lst [V.ref a0, V.ref a1, V.ref a2, V.ref a3, V.ref a4, V.ref a5, V.ref a6, V.ref a7, V.ref a8, V.ref a9, V.ref a10]) = F1
    intro z1 n1
    intro a11 H11 x11 o11 a12 H12 x12 o12 a13 H13 x13 o13 a14 H14 x14 o14
    refine ⟨hz _ (by decide), fun p2 hp2 => ?_⟩
    have y2 := ExtH.new (o := HO.lst [V.ref a11, V.ref a12, V.ref a13, V.ref a14]) hp2
    have l2 := upd_same (H := H14) (a := p2) (o := HO.lst [V.ref a11, V.ref a12, V.ref a13, V.ref a14])
    revert y2 l2
    generalize upd H14 p2 (HO.lst [V.ref a11, V.ref a12, V.ref a13, V.ref a14]) = G2
    intro y2 l2
    refine ⟨_, (y2 _ _ (x14 _ _ (x13 _ _ (x12 _ _ (x11 _ _ n1))))), _, l2, hz _ (by simp only [List.length_cons, List.length_nil]; decide), fun q2 hq2 => ?_⟩
    have z2 := ExtH.new (o := HO.lst [V.ref a0, V.ref a1, V.ref a2, V.ref a3, V.ref a4, V.ref a5, V.ref a6, V.ref a7, V.ref a8, V.ref a9, V.ref a10, V.ref a11, V.ref a12, V.ref a13, V.ref a14]) hq2
    have n2 : upd G2 q2 (HO.lst [V.ref a0, V.ref a1, V.ref a2, V.ref a3, V.ref a4, V.ref a5, V.ref a6, V.ref a7, V.ref a8, V.ref a9, V.ref a10, V.ref a11, V.ref a12, V.ref a13, V.ref a14]) q2 = some (.lst [V.ref a0, V.ref a1, V.ref a2, V.ref a3, V.ref a4, V.ref a5, V.ref a6, V.ref a7, V.ref a8, V.ref a9, V.ref a10, V.ref a11, V.ref a12, V.ref a13, V.ref a14]) := upd_same
    revert z2 n2
    simp only [List.cons_append, List.nil_append]
    generalize upd G2 q2 (HO.lst [V.ref a0, V.ref a1, V.ref a2, V.ref a3, V.ref a4, V.ref a5, V.ref a6, V.ref a7, V.ref a8, V.ref a9, V.ref a10, V.ref a11, V.ref a12, V.ref a13, V.ref a14]) = F2
    intro z2 n2
    intro a15 H15 x15 o15 a16 H16 x16 o16 a17 H17 x17 o17 a18 H18 x18 o18
    refine ⟨hz _ (by decide), fun p3 hp3 => ?_⟩
    have y3 := ExtH.new (o := HO.lst [V.ref a15, V.ref a16, V.ref a17, V.ref a18]) hp3
    have l3 := upd_same (H := H18) (a := p3) (o := HO.lst [V.ref a15, V.ref a16, V.ref a17, V.ref a18])
    revert y3 l3
    generalize upd H18 p3 (HO.lst [V.ref a15, V.ref a16, V.ref a17, V.ref a18]) = G3
    intro y3 l3
    refine ⟨_, (y3 _ _ (x18 _ _ (x17 _ _ (x16 _ _ (x15 _ _ n2))))), _, l3, hz _ (by simp only [List.length_cons, List.length_nil]; decide), fun q3 hq3 => ?_⟩
    have z3 := ExtH.new (o := HO.lst [V.ref a0, V.ref a1, V.ref a2, V.ref a3, V.ref a4, V.ref a5, V.ref a6, V.ref a7, V.ref a8, V.ref a9, V.ref a10, V.ref a11, V.ref a12, V.ref a13, V.ref a14, V.ref a15, V.ref a16, V.ref a17, V.ref a18]) hq3
    have n3 : upd G3 q3 (HO.lst [V.ref a0, V.ref a1, V.ref a2, V.ref a3, V.ref a4, V.ref a5, V.ref a6, V.ref a7, V.ref a8, V.ref a9, V.ref a10, V.ref a11, V.ref a12, V.ref a13, V.ref a14, V.ref a15, V.ref a16, V.ref a17, V.ref a18]) q3 = some (.lst [V.ref a0, V.ref a1, V.ref a2, V.ref a3, V.ref a4, V.ref a5, V.ref a6, V.ref a7, V.ref a8, V.ref a9, V.ref a10, V.ref a11, V.ref a12, V.ref a13, V.ref a14, V.ref a15, V.ref a16, V.ref a17, V.ref a18]) := upd_same
    revert z3 n3
    simp only [List.cons_append, List.nil_append]
    generalize upd G3 q3 (HO.lst [V.ref a0, V.ref a1, V.ref a2, V.ref a3, V.ref a4, V.ref a5, V.ref a6, V.ref a7, V.ref a8, V.ref a9, V.ref a10, V.ref a11, V.ref a12, V.ref a13, V.ref a14, V.ref a15, V.ref a16, V.ref a17, V.ref a18]) = F3
    intro z3 n3
    intro a19 H19 x19 o19 a20 H20 x20 o20 a21 H21 x21 o21
    refine ⟨hz _ (by decide), fun p4 hp4 => ?_⟩
    have y4 := ExtH.new (o := HO.lst [V.ref a19, V.ref a20, V.ref a21]) hp4
    have l4 := upd_same (H := H21) (a := p4) (o := HO.lst [V.ref a19, V.ref a20, V.ref a21])
    revert y4 l4
    generalize upd H21 p4 (HO.lst [V.ref a19, V.ref a20, V.ref a21]) = G4
    intro y4 l4
    refine ⟨_, (y4 _ _ (x21 _ _ (x20 _ _ (x19 _ _ n3)))), _, l4, hz _ (by simp only [List.length_cons, List.length_nil]; decide), fun q4 hq4 => ?_⟩
    have z4 := ExtH.new (o := HO.lst [V.ref a0, V.ref a1, V.ref a2, V.ref a3, V.ref a4, V.ref a5, V.ref a6, V.ref a7, V.ref a8, V.ref a9, V.ref a10, V.ref a11, V.ref a12, V.ref a13, V.ref a14, V.ref a15, V.ref a16, V.ref a17, V.ref a18, V.ref a19, V.ref a20, V.ref a21]) hq4
    have n4 : upd G4 q4 (HO.lst [V.ref a0, V.ref a1, V.ref a2, V.ref a3, V.ref a4, V.ref a5, V.ref a6, V.ref a7, V.ref a8, V.ref a9, V.ref a10, V.ref a11, V.ref a12, V.ref a13, V.ref a14, V.ref a15, V.ref a16, V.ref a17, V.ref a18, V.ref a19, V.ref a20, V.ref a21]) q4 = some (.lst [V.ref a0, V.ref a1, V.ref a2, V.ref a3, V.ref a4, V.ref a5, V.ref a6, V.ref a7, V.ref a8, V.ref a9, V.ref a10, V.ref a11, V.ref a12, V.ref a13, V.ref a14, V.ref a15, V.ref a16, V.ref a17, V.ref a18, V.ref a19, V.ref a20, V.ref a21]) := upd_same
    revert z4 n4
    simp only [List.cons_append, List.nil_append]
    generalize upd G4 q4 (HO.lst [V.ref a0, V.ref a1, V.ref a2, V.ref a3, V.ref a4, V.ref a5, V.ref a6, V.ref a7, V.ref a8, V.ref a9, V.ref a10, V.ref a11, V.ref a12, V.ref a13, V.ref a14, V.ref a15, V.ref a16, V.ref a17, V.ref a18, V.ref a19, V.ref a20, V.ref a21]) = F4
    intro z4 n4
    intro a22 H22 x22 o22 a23 H23 x23 o23 a24 H24 x24 o24 a25 H25 x25 o25
    refine ⟨hz _ (by decide), fun p5 hp5 => ?_⟩
    have y5 := ExtH.new (o := HO.lst [V.ref a22, V.ref a23, V.ref a24, V.ref a25]) hp5
    have l5 := upd_same (H := H25) (a := p5) (o := HO.lst [V.ref a22, V.ref a23, V.ref a24, V.ref a25])
    revert y5 l5
    generalize upd H25 p5 (HO.lst [V.ref a22, V.ref a23, V.ref a24, V.ref a25]) = G5
    intro y5 l5
    refine ⟨_, (y5 _ _ (x25 _ _ (x24 _ _ (x23 _ _ (x22 _ _ n4))))), _, l5, hz _ (by simp only [List.length_cons, List.length_nil]; decide), fun q5 hq5 => ?_⟩
    have z5 := ExtH.new (o := HO.lst [V.ref a0, V.ref a1, V.ref a2, V.ref a3, V.ref a4, V.ref a5, V.ref a6, V.ref a7, V.ref a8, V.ref a9, V.ref a10, V.ref a11, V.ref a12, V.ref a13, V.ref a14, V.ref a15, V.ref a16, V.ref a17, V.ref a18, V.ref a19, V.ref a20, V.ref a21, V.ref a22, V.ref a23, V.ref a24, V.ref a25]) hq5
    have n5 : upd G5 q5 (HO.lst [V.ref a0, V.ref a1, V.ref a2, V.ref a3, V.ref a4, V.ref a5, V.ref a6, V.ref a7, V.ref a8, V.ref a9, V.ref a10, V.ref a11, V.ref a12, V.ref a13, V.ref a14, V.ref a15, V.ref a16, V.ref a17, V.ref a18, V.ref a19, V.ref a20, V.ref a21, V.ref a22, V.ref a23, V.ref a24, V.ref a25]) q5 = some (.lst [V.ref a0, V.ref a1, V.ref a2, V.ref a3, V.ref a4, V.ref a5, V.ref a6, V.ref a7, V.ref a8, V.ref a9, V.ref a10, V.ref a11, V.ref a12, V.ref a13, V.ref a14, V.ref a15, V.ref a16, V.ref a17, V.ref a18, V.ref a19, V.ref a20, V.ref a21, V.ref a22, V.ref a23, V.ref a24, V.ref a25]) := upd_same
    revert z5 n5
    simp only [List.cons_append, List.nil_append]
    generalize upd G5 q5 (HO.lst [V.ref a0, V.ref a1, V.ref a2, V.ref a3, V.ref a4, V.ref a5, V.ref a6, V.ref a7, V.ref a8, V.ref a9, V.ref a10, V.ref a11, V.ref a12, V.ref a13, V.ref a14, V.ref a15, V.ref a16, V.ref a17, V.ref a18, V.ref a19, V.ref a20, V.ref a21, V.ref a22, V.ref a23, V.ref a24, V.ref a25]) = F5
    intro z5 n5
    have fin : ExtH F5 F5 := ExtH.refl
    have e36 := ExtH.trans z5 fin
    have e35 := ExtH.trans y5 e36
    have e34 := ExtH.trans x25 e35
    have e33 := ExtH.trans x24 e34
    have e32 := ExtH.trans x23 e33
    have e31 := ExtH.trans x22 e32
    have e30 := ExtH.trans z4 e31
    have e29 := ExtH.trans y4 e30
    have e28 := ExtH.trans x21 e29
    have e27 := ExtH.trans x20 e28
    have e26 := ExtH.trans x19 e27
    have e25 := ExtH.trans z3 e26
    have e24 := ExtH.trans y3 e25
    have e23 := ExtH.trans x18 e24
    have e22 := ExtH.trans x17 e23
    have e21 := ExtH.trans x16 e22
    have e20 := ExtH.trans x15 e21
    have e19 := ExtH.trans z2 e20
    have e18 := ExtH.trans y2 e19
    have e17 := ExtH.trans x14 e18
    have e16 := ExtH.trans x13 e17
    have e15 := ExtH.trans x12 e16
    have e14 := ExtH.trans x11 e15
    have e13 := ExtH.trans z1 e14
    have e12 := ExtH.trans y1 e13
    have e11 := ExtH.trans x10 e12
    have e10 := ExtH.trans x9 e11
    have e9 := ExtH.trans x8 e10
    have e8 := ExtH.trans x7 e9
    have e7 := ExtH.trans x6 e8
    have e6 := ExtH.trans y0 e7
    have e5 := ExtH.trans x5 e6
    have e4 := ExtH.trans x4 e5
    have e3 := ExtH.trans x3 e4
    have e2 := ExtH.trans x2 e3
    have e1 := ExtH.trans x1 e2
    have e0 := ExtH.trans x0 e1
    refine k q5 [a0, a1, a2, a3, a4, a5, a6, a7, a8, a9, a10, a11, a12, a13, a14, a15, a16, a17, a18, a19, a20, a21, a22, a23, a24, a25] _ e0 n5 ?_
    obtain ⟨c0, c1, c2, c3, c4, c5, c6, c7, c8, c9, c10, c11, c12, c13, c14, c15, c16, c17, c18, c19, c20, c21, c22, c23, c24, c25, c26, hc⟩ := list27 hcs
    subst hc
    exact .cons (o0.mono e1) (.cons (o1.mono e2) (.cons (o2.mono e3) (.cons (o3.mono e4) (.cons (o4.mono e5) (.cons (o5.mono e6) (.cons (o6.mono e8) (.cons (o7.mono e9) (.cons (o8.mono e10) (.cons (o9.mono e11) (.cons (o10.mono e12) (.cons (o11.mono e15) (.cons (o12.mono e16) (.cons (o13.mono e17) (.cons (o14.mono e18) (.cons (o15.mono e21) (.cons (o16.mono e22) (.cons (o17.mono e23) (.cons (o18.mono e24) (.cons (o19.mono e27) (.cons (o20.mono e28) (.cons (o21.mono e29) (.cons (o22.mono e32) (.cons (o23.mono e33) (.cons (o24.mono e34) (.cons (o25.mono e35) (.nil))))))))))))))))))))))))))
end

end YY

set_option maxRecDepth 100000
set_option maxHeartbeats 4000000
namespace YY
open PySem PySem.Spec PyProof.Rows L2 XX
local macro_rules | `(tactic| walk_at "wp") => `(tactic| simp only [Int.zero_add, L2.start, LcEnd, List.append_nil, List.cons.injEq, List.cons_append, List.getElem?_cons_succ, List.getElem?_cons_zero, List.length_cons, List.length_nil, List.map_cons, List.map_nil, List.nil_append, List.replicate, List.replicate_succ, List.replicate_zero, List.set_cons_succ, List.set_cons_zero, Nat.reduceAdd, Nat.reduceSub, Option.some.injEq, StX.tMakeR, StX.tStar, V.bl.injEq, V.int.injEq, V.ref.injEq, V.str.injEq, V.ty.injEq, WE, and_assoc, and_false, and_true, bool_ite_false, bool_ite_true, cxOf_K, cxOf_noxK, dec_ite, decide_eq_true_eq, exists_and_left, exists_and_right, exists_const, exists_eq_left, exists_eq_left', false_and, false_or, gCons, gName, gNil, gSub, gTup, iEnumA, iItems, iKeys, iList, iRng1, iRng2, iStr, iTup, iZipB, ite_false, ite_true, ndec_ite, or_false, rAppend, rCat, rCatT, rEq, rEqI, rEqK, rEqV, rExt2, rI, rI0, rIn, rInRg, rIndex, rIsD, rIsE, rIsE2, rIxD, rIxL, rIxS, rIxT, rLenI, rLenK, rListStr, rMax, rMaxDef, rSetIM, rEqT, sFldAug, rAdd, rMin, rMulS, rNe, rNeDA, rNeV, rRange1, rRep, rRepA, rReprE, rReprI, rSetD, rSetI, rSetL, rSlL, rSlT, rSortedSet, rU, reduceCtorEq, reduceIte, sFld, tAnd, tAndV, tAsg, tAug, tB, tBM, tBM0, tC, tCB, tCKw, tDGetT, tCall, tCallS, tChain, tCons, tDGet, tDIn, tDNewK, tDNotIn, tDcT_eq, tDc_eq, tDisp, tDrop, tErr, tFld, tFor_eq, tIf, tIfS, tIxI, tLc2_eq, tLc_eq, tLenSetS, tLock, tLockE, tLst, tLstRg, tM1, tMakeRS, tMakeS, tMakeV, tMakeVS, tMeth, tMethX, tMkO, tMulA, tMulD, tNext, tNil, tNoPart, tNot, tNotV, tOp, tOpI, tOpR, tOr, tOrV, tOst, tPairs, tPar, tPar3, tPart, tRet, tRetN, tRevT, tRg2, tSMeth, tSeq, tSl, tTest, tTup, tUn, tVar, tVeI, tXf, tYes, true_and, wAs, wMA, wipe])
section
variable {P : Program} {w : World} {K : PySem.W.Frag} {mg : Str → Option Value} {base : Heap}
/-! ### _law_marks -/
def bits (i : Nat) : List Bool := (List.range 27).map fun j => decide (j = i)
/-- an exception of the class C, with a value or without -/
def ExcAt (K : PySem.W.Frag) (H : Hp) (a C : Addr) : Prop := ∃ (d : Option Addr) (B T newId : String), XCls K B T newId C ∧ H a = some (exo a C d) ∧ ∀ dx, d = some dx → ∃ fs, H dx = some (exd dx fs)
theorem ExcAt.mono {H H' : Hp} {a C : Addr} (h : ExcAt K H a C) (x : ExtH H H') : ExcAt K H' a C := by
  obtain ⟨d, B, T, n, h1, h2, h3⟩ := h
  exact ⟨d, B, T, n, h1, x _ _ h2, fun dx e => (h3 dx e).imp fun fs q => x _ _ q⟩
theorem OneAt.exc {H : Hp} {a C : Addr} {v : V} (h : OneAt K H a C v) : ExcAt K H a C := by
  obtain ⟨dx, B, T, n, h1, h2, h3, h4⟩ := h
  exact ⟨some dx, B, T, n, h1, h3, fun d e => by cases e; exact ⟨_, h4⟩⟩
def KitAll (K : PySem.W.Frag) (cs : List Addr) : Prop := ∀ i j, i < 27 → j < 27 → PySem.W.kitOne K (.ref (cs.getD i 0)) (.ref (cs.getD j 0)) = some (decide (j = i))
def spMarks (K : PySem.W.Frag) (cs : List Addr) : Sp := fun vs H Q _ => ∃ (a : Addr) (i : Nat), vs = [.ref a] ∧ i < 27 ∧ ExcAt K H a (cs.getD i 0) ∧ ∀ (p : Addr) H', ExtH H H' → H' p = some (.lst ((bits i).map V.bl)) → Q (.ref p) H'
theorem scMarks : FnScope ["e", "some"] ["e"] (defScope sMarks) := ⟨rfl, rfl, rfl, by decide +kernel, rfl, by decide +kernel, by decide +kernel⟩
theorem is_run {H : Hp} {a : Addr} {cs : List Addr} {i j : Nat} {Q : VK} (kt : KitAll K cs) (hi : i < 27) (hj : j < 27) (h : ExcAt K H a (cs.getD i 0)) (q : Q (.bl (decide (j = i))) H) : rIsiX K [.ref a, .ref (cs.getD j 0)] H Q := by
  obtain ⟨d, B, T, n, h1, h2, h3⟩ := h
  exact ⟨a, _, d, B, T, n, _, _, _, rfl, .own _, h1, h2, h3, kt i j hi hj, q⟩
theorem c_marks {cs : List Addr} (D : Def K mg "_law_marks" sMarks ["e"]) (nI : mg "isinstance" = none) (g : ∀ i x, (xNames ++ (["NothingToUndo"] : List Str))[i]? = some x → mg x = some (.ref (cs.getD i 0))) (kt : KitAll K cs) : FnC P w K mg base CX0 2 "_law_marks" ["e"] (spMarks K cs) := by
  refine D.ok scMarks (fun vs H Q E h => ?_) (fun f cdv A outer s H vs Q E hr h => ?_)
  · obtain ⟨a, i, rfl, _⟩ := h
    rfl
  · obtain ⟨a, i, rfl, hi, ha, k⟩ := h
    have sc := scMarks
    refine ⟨_, (pss_cons (ps_set (i := 1) sc.nd rfl (Or.inl rfl) (pe_lst (pa_cons (pe_callB call_isiX (by rfl) nI (by decide +kernel) (pa_cons (pv 0) (pa_cons (pe_glob (v := .ref (cs.getD 0 0)) rfl (g 0 _ rfl) rfl) pa_nil))) (pa_cons (pe_callB call_isiX (by rfl) nI (by decide +kernel) (pa_cons (pv 0) (pa_cons (pe_glob (v := .ref (cs.getD 1 0)) rfl (g 1 _ rfl) rfl) pa_nil))) (pa_cons (pe_callB call_isiX (by rfl) nI (by decide +kernel) (pa_cons (pv 0) (pa_cons (pe_glob (v := .ref (cs.getD 2 0)) rfl (g 2 _ rfl) rfl) pa_nil))) (pa_cons (pe_callB call_isiX (by rfl) nI (by decide +kernel) (pa_cons (pv 0) (pa_cons (pe_glob (v := .ref (cs.getD 3 0)) rfl (g 3 _ rfl) rfl) pa_nil))) pa_nil))))))
    (pss_cons (ps_set (i := 1) sc.nd rfl (Or.inl rfl) (pe_op op_cat (pv 1) (pe_lst (pa_cons (pe_callB call_isiX (by rfl) nI (by decide +kernel) (pa_cons (pv 0) (pa_cons (pe_glob (v := .ref (cs.getD 4 0)) rfl (g 4 _ rfl) rfl) pa_nil))) (pa_cons (pe_callB call_isiX (by rfl) nI (by decide +kernel) (pa_cons (pv 0) (pa_cons (pe_glob (v := .ref (cs.getD 5 0)) rfl (g 5 _ rfl) rfl) pa_nil))) (pa_cons (pe_callB call_isiX (by rfl) nI (by decide +kernel) (pa_cons (pv 0) (pa_cons (pe_glob (v := .ref (cs.getD 6 0)) rfl (g 6 _ rfl) rfl) pa_nil))) (pa_cons (pe_callB call_isiX (by rfl) nI (by decide +kernel) (pa_cons (pv 0) (pa_cons (pe_glob (v := .ref (cs.getD 7 0)) rfl (g 7 _ rfl) rfl) pa_nil))) pa_nil)))))))
    (pss_cons (ps_set (i := 1) sc.nd rfl (Or.inl rfl) (pe_op op_cat (pv 1) (pe_lst (pa_cons (pe_callB call_isiX (by rfl) nI (by decide +kernel) (pa_cons (pv 0) (pa_cons (pe_glob (v := .ref (cs.getD 8 0)) rfl (g 8 _ rfl) rfl) pa_nil))) (pa_cons (pe_callB call_isiX (by rfl) nI (by decide +kernel) (pa_cons (pv 0) (pa_cons (pe_glob (v := .ref (cs.getD 9 0)) rfl (g 9 _ rfl) rfl) pa_nil))) (pa_cons (pe_callB call_isiX (by rfl) nI (by decide +kernel) (pa_cons (pv 0) (pa_cons (pe_glob (v := .ref (cs.getD 10 0)) rfl (g 10 _ rfl) rfl) pa_nil))) pa_nil))))))
    (pss_cons (ps_set (i := 1) sc.nd rfl (Or.inl rfl) (pe_op op_cat (pv 1) (pe_lst (pa_cons (pe_callB call_isiX (by rfl) nI (by decide +kernel) (pa_cons (pv 0) (pa_cons (pe_glob (v := .ref (cs.getD 11 0)) rfl (g 11 _ rfl) rfl) pa_nil))) (pa_cons (pe_callB call_isiX (by rfl) nI (by decide +kernel) (pa_cons (pv 0) (pa_cons (pe_glob (v := .ref (cs.getD 12 0)) rfl (g 12 _ rfl) rfl) pa_nil))) (pa_cons (pe_callB call_isiX (by rfl) nI (by decide +kernel) (pa_cons (pv 0) (pa_cons (pe_glob (v := .ref (cs.getD 13 0)) rfl (g 13 _ rfl) rfl) pa_nil))) pa_nil))))))
    (pss_cons (ps_set (i := 1) sc.nd rfl (Or.inl rfl) (pe_op op_cat (pv 1) (pe_lst (pa_cons (pe_callB call_isiX (by rfl) nI (by decide +kernel) (pa_cons (pv 0) (pa_cons (pe_glob (v := .ref (cs.getD 14 0)) rfl (g 14 _ rfl) rfl) pa_nil))) (pa_cons (pe_callB call_isiX (by rfl) nI (by decide +kernel) (pa_cons (pv 0) (pa_cons (pe_glob (v := .ref (cs.getD 15 0)) rfl (g 15 _ rfl) rfl) pa_nil))) (pa_cons (pe_callB call_isiX (by rfl) nI (by decide +kernel) (pa_cons (pv 0) (pa_cons (pe_glob (v := .ref (cs.getD 16 0)) rfl (g 16 _ rfl) rfl) pa_nil))) pa_nil))))))
    (pss_cons (ps_set (i := 1) sc.nd rfl (Or.inl rfl) (pe_op op_cat (pv 1) (pe_lst (pa_cons (pe_callB call_isiX (by rfl) nI (by decide +kernel) (pa_cons (pv 0) (pa_cons (pe_glob (v := .ref (cs.getD 17 0)) rfl (g 17 _ rfl) rfl) pa_nil))) (pa_cons (pe_callB call_isiX (by rfl) nI (by decide +kernel) (pa_cons (pv 0) (pa_cons (pe_glob (v := .ref (cs.getD 18 0)) rfl (g 18 _ rfl) rfl) pa_nil))) (pa_cons (pe_callB call_isiX (by rfl) nI (by decide +kernel) (pa_cons (pv 0) (pa_cons (pe_glob (v := .ref (cs.getD 19 0)) rfl (g 19 _ rfl) rfl) pa_nil))) pa_nil))))))
    (pss_cons (ps_set (i := 1) sc.nd rfl (Or.inl rfl) (pe_op op_cat (pv 1) (pe_lst (pa_cons (pe_callB call_isiX (by rfl) nI (by decide +kernel) (pa_cons (pv 0) (pa_cons (pe_glob (v := .ref (cs.getD 20 0)) rfl (g 20 _ rfl) rfl) pa_nil))) (pa_cons (pe_callB call_isiX (by rfl) nI (by decide +kernel) (pa_cons (pv 0) (pa_cons (pe_glob (v := .ref (cs.getD 21 0)) rfl (g 21 _ rfl) rfl) pa_nil))) (pa_cons (pe_callB call_isiX (by rfl) nI (by decide +kernel) (pa_cons (pv 0) (pa_cons (pe_glob (v := .ref (cs.getD 22 0)) rfl (g 22 _ rfl) rfl) pa_nil))) pa_nil))))))
    (pss_cons (ps_set (i := 1) sc.nd rfl (Or.inl rfl) (pe_op op_cat (pv 1) (pe_lst (pa_cons (pe_callB call_isiX (by rfl) nI (by decide +kernel) (pa_cons (pv 0) (pa_cons (pe_glob (v := .ref (cs.getD 23 0)) rfl (g 23 _ rfl) rfl) pa_nil))) (pa_cons (pe_callB call_isiX (by rfl) nI (by decide +kernel) (pa_cons (pv 0) (pa_cons (pe_glob (v := .ref (cs.getD 24 0)) rfl (g 24 _ rfl) rfl) pa_nil))) (pa_cons (pe_callB call_isiX (by rfl) nI (by decide +kernel) (pa_cons (pv 0) (pa_cons (pe_glob (v := .ref (cs.getD 25 0)) rfl (g 25 _ rfl) rfl) pa_nil))) pa_nil))))))
    (pss_one (ps_ret (pe_op op_cat (pv 1) (pe_lst (pa_cons (pe_callB call_isiX (by rfl) nI (by decide +kernel) (pa_cons (pv 0) (pa_cons (pe_glob (v := .ref (cs.getD 26 0)) rfl (g 26 _ rfl) rfl) pa_nil))) pa_nil))))))))))))), ?_⟩
    walk_at "wp"
    have hz : ∀ n : Nat, n ≤ 100 → n ≤ sizeLine := fun n hn => by rw [sizeLine_eq]; omega
    refine is_run kt hi (by decide) ha ?_
    refine is_run kt hi (by decide) ha ?_
    refine is_run kt hi (by decide) ha ?_
    refine is_run kt hi (by decide) ha ?_
    refine ⟨hz _ (by decide), fun p0 hp0 => ?_⟩
    have y0 := ExtH.new (o := HO.lst [V.bl (decide (0 = i)), V.bl (decide (1 = i)), V.bl (decide (2 = i)), V.bl (decide (3 = i))]) hp0
    have l0 := upd_same (H := H) (a := p0) (o := HO.lst [V.bl (decide (0 = i)), V.bl (decide (1 = i)), V.bl (decide (2 = i)), V.bl (decide (3 = i))])
    revert y0 l0
    generalize upd H p0 (HO.lst [V.bl (decide (0 = i)), V.bl (decide (1 = i)), V.bl (decide (2 = i)), V.bl (decide (3 = i))]) = G0
    intro y0 l0
    have ha0 := ha.mono y0
    refine is_run kt hi (by decide) ha0 ?_
    refine is_run kt hi (by decide) ha0 ?_
    refine is_run kt hi (by decide) ha0 ?_
    refine is_run kt hi (by decide) ha0 ?_
    refine ⟨hz _ (by decide), fun p1 hp1 => ?_⟩
    have y1 := ExtH.new (o := HO.lst [V.bl (decide (4 = i)), V.bl (decide (5 = i)), V.bl (decide (6 = i)), V.bl (decide (7 = i))]) hp1
    have l1 := upd_same (H := G0) (a := p1) (o := HO.lst [V.bl (decide (4 = i)), V.bl (decide (5 = i)), V.bl (decide (6 = i)), V.bl (decide (7 = i))])
    revert y1 l1
    generalize upd G0 p1 (HO.lst [V.bl (decide (4 = i)), V.bl (decide (5 = i)), V.bl (decide (6 = i)), V.bl (decide (7 = i))]) = G1
    intro y1 l1
    have ha1 := ha0.mono y1
    refine ⟨_, (y1 _ _ l0), _, l1, hz _ (by simp only [List.length_cons, List.length_nil]; decide), fun q1 hq1 => ?_⟩
    have z1 := ExtH.new (o := HO.lst [V.bl (decide (0 = i)), V.bl (decide (1 = i)), V.bl (decide (2 = i)), V.bl (decide (3 = i)), V.bl (decide (4 = i)), V.bl (decide (5 = i)), V.bl (decide (6 = i)), V.bl (decide (7 = i))]) hq1
    have n1 : upd G1 q1 (HO.lst [V.bl (decide (0 = i)), V.bl (decide (1 = i)), V.bl (decide (2 = i)), V.bl (decide (3 = i)), V.bl (decide (4 = i)), V.bl (decide (5 = i)), V.bl (decide (6 = i)), V.bl (decide (7 = i))]) q1 = some (.lst [V.bl (decide (0 = i)), V.bl (decide (1 = i)), V.bl (decide (2 = i)), V.bl (decide (3 = i)), V.bl (decide (4 = i)), V.bl (decide (5 = i)), V.bl (decide (6 = i)), V.bl (decide (7 = i))]) := upd_same
    revert z1 n1
    simp only [List.cons_append, List.nil_append]
    generalize upd G1 q1 (HO.lst [V.bl (decide (0 = i)), V.bl (decide (1 = i)), V.bl (decide (2 = i)), V.bl (decide (3 = i)), V.bl (decide (4 = i)), V.bl (decide (5 = i)), V.bl (decide (6 = i)), V.bl (decide (7 = i))]) = F1
    intro z1 n1
    have hb1 := ha1.mono z1
    refine is_run kt hi (by decide) hb1 ?_
    refine is_run kt hi (by decide) hb1 ?_
    refine is_run kt hi (by decide) hb1 ?_
    refine ⟨hz _ (by decide), fun p2 hp2 => ?_⟩
    have y2 := ExtH.new (o := HO.lst [V.bl (decide (8 = i)), V.bl (decide (9 = i)), V.bl (decide (10 = i))]) hp2
    have l2 := upd_same (H := F1) (a := p2) (o := HO.lst [V.bl (decide (8 = i)), V.bl (decide (9 = i)), V.bl (decide (10 = i))])
    revert y2 l2
    generalize upd F1 p2 (HO.lst [V.bl (decide (8 = i)), V.bl (decide (9 = i)), V.bl (decide (10 = i))]) = G2
    intro y2 l2
    have ha2 := hb1.mono y2
    refine ⟨_, (y2 _ _ n1), _, l2, hz _ (by simp only [List.length_cons, List.length_nil]; decide), fun q2 hq2 => ?_⟩
    have z2 := ExtH.new (o := HO.lst [V.bl (decide (0 = i)), V.bl (decide (1 = i)), V.bl (decide (2 = i)), V.bl (decide (3 = i)), V.bl (decide (4 = i)), V.bl (decide (5 = i)), V.bl (decide (6 = i)), V.bl (decide (7 = i)), V.bl (decide (8 = i)), V.bl (decide (9 = i)), V.bl (decide (10 = i))]) hq2
    have n2 : upd G2 q2 (HO.lst [V.bl (decide (0 = i)), V.bl (decide (1 = i)), V.bl (decide (2 = i)), V.bl (decide (3 = i)), V.bl (decide (4 = i)), V.bl (decide (5 = i)), V.bl (decide (6 = i)), V.bl (decide (7 = i)), V.bl (decide (8 = i)), V.bl (decide (9 = i)), V.bl (decide (10 = i))]) q2 = some (.lst [V.bl (decide (0 = i)), V.bl (decide (1 = i)), V.bl (decide (2 = i)), V.bl (decide (3 = i)), V.bl (decide (4 = i)), V.bl (decide (5 = i)), V.bl (decide (6 = i)), V.bl (decide (7 = i)), V.bl (decide (8 = i)), V.bl (decide (9 = i)), V.bl (decide (10 = i))]) := upd_same
    revert z2 n2
    simp only [List.cons_append, List.nil_append]
    generalize upd G2 q2 (HO.lst [V.bl (decide (0 = i)), V.bl (decide (1 = i)), V.bl (decide (2 = i)), V.bl (decide (3 = i)), V.bl (decide (4 = i)), V.bl (decide (5 = i)), V.bl (decide (6 = i)), V.bl (decide (7 = i)), V.bl (decide (8 = i)), V.bl (decide (9 = i)), V.bl (decide (10 = i))]) = F2
    intro z2 n2
    have hb2 := ha2.mono z2
    refine is_run kt hi (by decide) hb2 ?_
    refine is_run kt hi (by decide) hb2 ?_
    refine is_run kt hi (by decide) hb2 ?_
    refine ⟨hz _ (by decide), fun p3 hp3 => ?_⟩
    have y3 := ExtH.new (o := HO.lst [V.bl (decide (11 = i)), V.bl (decide (12 = i)), V.bl (decide (13 = i))]) hp3
    have l3 := upd_same (H := F2) (a := p3) (o := HO.lst [V.bl (decide (11 = i)), V.bl (decide (12 = i)), V.bl (decide (13 = i))])
    revert y3 l3
    generalize upd F2 p3 (HO.lst [V.bl (decide (11 = i)), V.bl (decide (12 = i)), V.bl (decide (13 = i))]) = G3
    intro y3 l3
    have ha3 := hb2.mono y3
    refine ⟨_, (y3 _ _ n2), _, l3, hz _ (by simp only [List.length_cons, List.length_nil]; decide), fun q3 hq3 => ?_⟩
    have z3 := ExtH.new (o := HO.lst [V.bl (decide (0 = i)), V.bl (decide (1 = i)), V.bl (decide (2 = i)), V.bl (decide (3 = i)), V.bl (decide (4 = i)), V.bl (decide (5 = i)), V.bl (decide (6 = i)), V.bl (decide (7 = i)), V.bl (decide (8 = i)), V.bl (decide (9 = i)), V.bl (decide (10 = i)), V.bl (decide (11 = i)), V.bl (decide (12 = i)), V.bl (decide (13 = i))]) hq3
    have n3 : upd G3 q3 (HO.lst [V.bl (decide (0 = i)), V.bl (decide (1 = i)), V.bl (decide (2 = i)), V.bl (decide (3 = i)), V.bl (decide (4 = i)), V.bl (decide (5 = i)), V.bl (decide (6 = i)), V.bl (decide (7 = i)), V.bl (decide (8 = i)), V.bl (decide (9 = i)), V.bl (decide (10 = i)), V.bl (decide (11 = i)), V.bl (decide (12 = i)), V.bl (decide (13 = i))]) q3 = some (.lst [V.bl (decide (0 = i)), V.bl (decide (1 = i)), V.bl (decide (2 = i)), V.bl (decide (3 = i)), V.bl (decide (4 = i)), V.bl (decide (5 = i)), V.bl (decide (6 = i)), V.bl (decide (7 = i)), V.bl (decide (8 = i)), V.bl (decide (9 = i)), V.bl (decide (10 = i)), V.bl (decide (11 = i)), V.bl (decide (12 = i)), V.bl (decide (13 = i))]) := upd_same
    revert z3 n3
    simp only [List.cons_append, List.nil_append]
    generalize upd G3 q3 (HO.lst [V.bl (decide (0 = i)), V.bl (decide (1 = i)), V.bl (decide (2 = i)), V.bl (decide (3 = i)), V.bl (decide (4 = i)), V.bl (decide (5 = i)), V.bl (decide (6 = i)), V.bl (decide (7 = i)), V.bl (decide (8 = i)), V.bl (decide (9 = i)), V.bl (decide (10 = i)), V.bl (decide (11 = i)), V.bl (decide (12 = i)), V.bl (decide (13 = i))]) = F3
    intro z3 n3
    have hb3 := ha3.mono z3
    refine is_run kt hi (by decide) hb3 ?_
    refine is_run kt hi (by decide) hb3 ?_
    refine is_run kt hi (by decide) hb3 ?_
    refine ⟨hz _ (by decide), fun p4 hp4 => ?_⟩
    have y4 := ExtH.new (o := HO.lst [V.bl (decide (14 = i)), V.bl (decide (15 = i)), V.bl (decide (16 = i))]) hp4
    have l4 := upd_same (H := F3) (a := p4) (o := HO.lst [V.bl (decide (14 = i)), V.bl (decide (15 = i)), V.bl (decide (16 = i))])
    revert y4 l4
    generalize upd F3 p4 (HO.lst [V.bl (decide (14 = i)), V.bl (decide (15 = i)), V.bl (decide (16 = i))]) = G4
    intro y4 l4
    have ha4 := hb3.mono y4
    refine ⟨_, (y4 _ _ n3), _, l4, hz _ (by simp only [List.length_cons, List.length_nil]; decide), fun q4 hq4 => ?_⟩
    have z4 := ExtH.new (o := HO.lst [V.bl (decide (0 = i)), V.bl (decide (1 = i)), V.bl (decide (2 = i)), V.bl (decide (3 = i)), V.bl (decide (4 = i)), V.bl (decide (5 = i)), V.bl (decide (6 = i)), V.bl (decide (7 = i)), V.bl (decide (8 = i)), V.bl (decide (9 = i)), V.bl (decide (10 = i)), V.bl (decide (11 = i)), V.bl (decide (12 = i)), V.bl (decide (13 = i)), V.bl (decide (14 = i)), V.bl (decide (15 = i)), V.bl (decide (16 = i))]) hq4
    have n4 : upd G4 q4 (HO.lst [V.bl (decide (0 = i)), V.bl (decide (1 = i)), V.bl (decide (2 = i)), V.bl (decide (3 = i)), V.bl (decide (4 = i)), V.bl (decide (5 = i)), V.bl (decide (6 = i)), V.bl (decide (7 = i)), V.bl (decide (8 = i)), V.bl (decide (9 = i)), V.bl (decide (10 = i)), V.bl (decide (11 = i)), V.bl (decide (12 = i)), V.bl (decide (13 = i)), V.bl (decide (14 = i)), V.bl (decide (15 = i)), V.bl (decide (16 = i))]) q4 = some (.lst [V.bl (decide (0 = i)), V.bl (decide (1 = i)), V.bl (decide (2 = i)), V.bl (decide (3 = i)), V.bl (decide (4 = i)), V.bl (decide (5 = i)), V.bl (decide (6 = i)), V.bl (decide (7 = i)), V.bl (decide (8 = i)), V.bl (decide (9 = i)), V.bl (decide (10 = i)), V.bl (decide (11 = i)), V.bl (decide (12 = i)), V.bl (decide (13 = i)), V.bl (decide (14 = i)), V.bl (decide (15 = i)), V.bl (decide (16 = i))]) := upd_same
    revert z4 n4
    simp only [List.cons_append, List.nil_append]
    generalize upd G4 q4 (HO.lst [V.bl (decide (0 = i)), V.bl (decide (1 = i)), V.bl (decide (2 = i)), V.bl (decide (3 = i)), V.bl (decide (4 = i)), V.bl (decide (5 = i)), V.bl (decide (6 = i)), V.bl (decide (7 = i)), V.bl (decide (8 = i)), V.bl (decide (9 = i)), V.bl (decide (10 = i)), V.bl (decide (11 = i)), V.bl (decide (12 = i)), V.bl (decide (13 = i)), V.bl (decide (14 = i)), V.bl (decide (15 = i)), V.bl (decide (16 = i))]) = F4
    intro z4 n4
    have hb4 := ha4.mono z4
    refine is_run kt hi (by decide) hb4 ?_
    refine is_run kt hi (by decide) hb4 ?_
    refine is_run kt hi (by decide) hb4 ?_
    refine ⟨hz _ (by decide), fun p5 hp5 => ?_⟩
    have y5 := ExtH.new (o := HO.lst [V.bl (decide (17 = i)), V.bl (decide (18 = i)), V.bl (decide (19 = i))]) hp5
    have l5 := upd_same (H := F4) (a := p5) (o := HO.lst [V.bl (decide (17 = i)), V.bl (decide (18 = i)), V.bl (decide (19 = i))])
    revert y5 l5
    generalize upd F4 p5 (HO.lst [V.bl (decide (17 = i)), V.bl (decide (18 = i)), V.bl (decide (19 = i))]) = G5
    intro y5 l5
    have ha5 := hb4.mono y5
    refine ⟨_, (y5 _ _ n4), _, l5, hz _ (by simp only [List.length_cons, List.length_nil]; decide), fun q5 hq5 => ?_⟩
    have z5 := ExtH.new (o := HO.lst [V.bl (decide (0 = i)), V.bl (decide (1 = i)), V.bl (decide (2 = i)), V.bl (decide (3 = i)), V.bl (decide (4 = i)), V.bl (decide (5 = i)), V.bl (decide (6 = i)), V.bl (decide (7 = i)), V.bl (decide (8 = i)), V.bl (decide (9 = i)), V.bl (decide (10 = i)), V.bl (decide (11 = i)), V.bl (decide (12 = i)), V.bl (decide (13 = i)), V.bl (decide (14 = i)), V.bl (decide (15 = i)), V.bl (decide (16 = i)), V.bl (decide (17 = i)), V.bl (decide (18 = i)), V.bl (decide (19 = i))]) hq5
    have n5 : upd G5 q5 (HO.lst [V.bl (decide (0 = i)), V.bl (decide (1 = i)), V.bl (decide (2 = i)), V.bl (decide (3 = i)), V.bl (decide (4 = i)), V.bl (decide (5 = i)), V.bl (decide (6 = i)), V.bl (decide (7 = i)), V.bl (decide (8 = i)), V.bl (decide (9 = i)), V.bl (decide (10 = i)), V.bl (decide (11 = i)), V.bl (decide (12 = i)), V.bl (decide (13 = i)), V.bl (decide (14 = i)), V.bl (decide (15 = i)), V.bl (decide (16 = i)), V.bl (decide (17 = i)), V.bl (decide (18 = i)), V.bl (decide (19 = i))]) q5 = some (.lst [V.bl (decide (0 = i)), V.bl (decide (1 = i)), V.bl (decide (2 = i)), V.bl (decide (3 = i)), V.bl (decide (4 = i)), V.bl (decide (5 = i)), V.bl (decide (6 = i)), V.bl (decide (7 = i)), V.bl (decide (8 = i)), V.bl (decide (9 = i)), V.bl (decide (10 = i)), V.bl (decide (11 = i)), V.bl (decide (12 = i)), V.bl (decide (13 = i)), V.bl (decide (14 = i)), V.bl (decide (15 = i)), V.bl (decide (16 = i)), V.bl (decide (17 = i)), V.bl (decide (18 = i)), V.bl (decide (19 = i))]) := upd_same
    revert z5 n5
    simp only [List.cons_append, List.nil_append]
    generalize upd G5 q5 (HO.lst [V.bl (decide (0 = i)), V.bl (decide (1 = i)), V.bl (decide (2 = i)), V.bl (decide (3 = i)), V.bl (decide (4 = i)), V.bl (decide (5 = i)), V.bl (decide (6 = i)), V.bl (decide (7 = i)), V.bl (decide (8 = i)), V.bl (decide (9 = i)), V.bl (decide (10 = i)), V.bl (decide (11 = i)), V.bl (decide (12 = i)), V.bl (decide (13 = i)), V.bl (decide (14 = i)), V.bl (decide (15 = i)), V.bl (decide (16 = i)), V.bl (decide (17 = i)), V.bl (decide (18 = i)), V.bl (decide (19 = i))]) = F5
    intro z5 n5
    have hb5 := ha5.mono z5
    refine is_run kt hi (by decide) hb5 ?_
    refine is_run kt hi (by decide) hb5 ?_
    refine is_run kt hi (by decide) hb5 ?_
    refine ⟨hz _ (by decide), fun p6 hp6 => ?_⟩
    have y6 := ExtH.new (o := HO.lst [V.bl (decide (20 = i)), V.bl (decide (21 = i)), V.bl (decide (22 = i))]) hp6
    have l6 := upd_same (H := F5) (a := p6) (o := HO.lst [V.bl (decide (20 = i)), V.bl (decide (21 = i)), V.bl (decide (22 = i))])
    revert y6 l6
    generalize upd F5 p6 (HO.lst [V.bl (decide (20 = i)), V.bl (decide (21 = i)), V.bl (decide (22 = i))]) = G6
    intro y6 l6
    have ha6 := hb5.mono y6
    refine ⟨_, (y6 _ _ n5), _, l6, hz _ (by simp only [List.length_cons, List.length_nil]; decide), fun q6 hq6 => ?_⟩
    have z6 := ExtH.new (o := HO.lst [V.bl (decide (0 = i)), V.bl (decide (1 = i)), V.bl (decide (2 = i)), V.bl (decide (3 = i)), V.bl (decide (4 = i)), V.bl (decide (5 = i)), V.bl (decide (6 = i)), V.bl (decide (7 = i)), V.bl (decide (8 = i)), V.bl (decide (9 = i)), V.bl (decide (10 = i)), V.bl (decide (11 = i)), V.bl (decide (12 = i)), V.bl (decide (13 = i)), V.bl (decide (14 = i)), V.bl (decide (15 = i)), V.bl (decide (16 = i)), V.bl (decide (17 = i)), V.bl (decide (18 = i)), V.bl (decide (19 = i)), V.bl (decide (20 = i)), V.bl (decide (21 = i)), V.bl (decide (22 = i))]) hq6
    have n6 : upd G6 q6 (HO.lst [V.bl (decide (0 = i)), V.bl (decide (1 = i)), V.bl (decide (2 = i)), V.bl (decide (3 = i)), V.bl (decide (4 = i)), V.bl (decide (5 = i)), V.bl (decide (6 = i)), V.bl (decide (7 = i)), V.bl (decide (8 = i)), V.bl (decide (9 = i)), V.bl (decide (10 = i)), V.bl (decide (11 = i)), V.bl (decide (12 = i)), V.bl (decide (13 = i)), V.bl (decide (14 = i)), V.bl (decide (15 = i)), V.bl (decide (16 = i)), V.bl (decide (17 = i)), V.bl (decide (18 = i)), V.bl (decide (19 = i)), V.bl (decide (20 = i)), V.bl (decide (21 = i)), V.bl (decide (22 = i))]) q6 = some (.lst [V.bl (decide (0 = i)), V.bl (decide (1 = i)), V.bl (decide (2 = i)), V.bl (decide (3 = i)), V.bl (decide (4 = i)), V.bl (decide (5 = i)), V.bl (decide (6 = i)), V.bl (decide (7 = i)), V.bl (decide (8 = i)), V.bl (decide (9 = i)), V.bl (decide (10 = i)), V.bl (decide (11 = i)), V.bl (decide (12 = i)), V.bl (decide (13 = i)), V.bl (decide (14 = i)), V.bl (decide (15 = i)), V.bl (decide (16 = i)), V.bl (decide (17 = i)), V.bl (decide (18 = i)), V.bl (decide (19 = i)), V.bl (decide (20 = i)), V.bl (decide (21 = i)), V.bl (decide (22 = i))]) := upd_same
    revert z6 n6
    simp only [List.cons_append, List.nil_append]
    generalize upd G6 q6 (HO.lst [V.bl (decide (0 = i)), V.bl (decide (1 = i)), V.bl (decide (2 = i)), V.bl (decide (3 = i)), V.bl (decide (4 = i)), V.bl (decide (5 = i)), V.bl (decide (6 = i)), V.bl (decide (7 = i)), V.bl (decide (8 = i)), V.bl (decide (9 = i)), V.bl (decide (10 = i)), V.bl (decide (11 = i)), V.bl (decide (12 = i)), V.bl (decide (13 = i)), V.bl (decide (14 = i)), V.bl (decide (15 = i)), V.bl (decide (16 = i)), V.bl (decide (17 = i)), V.bl (decide (18 = i)), V.bl (decide (19 = i)), V.bl (decide (20 = i)), V.bl (decide (21 = i)), V.bl (decide (22 = i))]) = F6
    intro z6 n6
    have hb6 := ha6.mono z6
    refine is_run kt hi (by decide) hb6 ?_
    refine is_run kt hi (by decide) hb6 ?_
    refine is_run kt hi (by decide) hb6 ?_
    refine ⟨hz _ (by decide), fun p7 hp7 => ?_⟩
    have y7 := ExtH.new (o := HO.lst [V.bl (decide (23 = i)), V.bl (decide (24 = i)), V.bl (decide (25 = i))]) hp7
    have l7 := upd_same (H := F6) (a := p7) (o := HO.lst [V.bl (decide (23 = i)), V.bl (decide (24 = i)), V.bl (decide (25 = i))])
    revert y7 l7
    generalize upd F6 p7 (HO.lst [V.bl (decide (23 = i)), V.bl (decide (24 = i)), V.bl (decide (25 = i))]) = G7
    intro y7 l7
    have ha7 := hb6.mono y7
    refine ⟨_, (y7 _ _ n6), _, l7, hz _ (by simp only [List.length_cons, List.length_nil]; decide), fun q7 hq7 => ?_⟩
    have z7 := ExtH.new (o := HO.lst [V.bl (decide (0 = i)), V.bl (decide (1 = i)), V.bl (decide (2 = i)), V.bl (decide (3 = i)), V.bl (decide (4 = i)), V.bl (decide (5 = i)), V.bl (decide (6 = i)), V.bl (decide (7 = i)), V.bl (decide (8 = i)), V.bl (decide (9 = i)), V.bl (decide (10 = i)), V.bl (decide (11 = i)), V.bl (decide (12 = i)), V.bl (decide (13 = i)), V.bl (decide (14 = i)), V.bl (decide (15 = i)), V.bl (decide (16 = i)), V.bl (decide (17 = i)), V.bl (decide (18 = i)), V.bl (decide (19 = i)), V.bl (decide (20 = i)), V.bl (decide (21 = i)), V.bl (decide (22 = i)), V.bl (decide (23 = i)), V.bl (decide (24 = i)), V.bl (decide (25 = i))]) hq7
    have n7 : upd G7 q7 (HO.lst [V.bl (decide (0 = i)), V.bl (decide (1 = i)), V.bl (decide (2 = i)), V.bl (decide (3 = i)), V.bl (decide (4 = i)), V.bl (decide (5 = i)), V.bl (decide (6 = i)), V.bl (decide (7 = i)), V.bl (decide (8 = i)), V.bl (decide (9 = i)), V.bl (decide (10 = i)), V.bl (decide (11 = i)), V.bl (decide (12 = i)), V.bl (decide (13 = i)), V.bl (decide (14 = i)), V.bl (decide (15 = i)), V.bl (decide (16 = i)), V.bl (decide (17 = i)), V.bl (decide (18 = i)), V.bl (decide (19 = i)), V.bl (decide (20 = i)), V.bl (decide (21 = i)), V.bl (decide (22 = i)), V.bl (decide (23 = i)), V.bl (decide (24 = i)), V.bl (decide (25 = i))]) q7 = some (.lst [V.bl (decide (0 = i)), V.bl (decide (1 = i)), V.bl (decide (2 = i)), V.bl (decide (3 = i)), V.bl (decide (4 = i)), V.bl (decide (5 = i)), V.bl (decide (6 = i)), V.bl (decide (7 = i)), V.bl (decide (8 = i)), V.bl (decide (9 = i)), V.bl (decide (10 = i)), V.bl (decide (11 = i)), V.bl (decide (12 = i)), V.bl (decide (13 = i)), V.bl (decide (14 = i)), V.bl (decide (15 = i)), V.bl (decide (16 = i)), V.bl (decide (17 = i)), V.bl (decide (18 = i)), V.bl (decide (19 = i)), V.bl (decide (20 = i)), V.bl (decide (21 = i)), V.bl (decide (22 = i)), V.bl (decide (23 = i)), V.bl (decide (24 = i)), V.bl (decide (25 = i))]) := upd_same
    revert z7 n7
    simp only [List.cons_append, List.nil_append]
    generalize upd G7 q7 (HO.lst [V.bl (decide (0 = i)), V.bl (decide (1 = i)), V.bl (decide (2 = i)), V.bl (decide (3 = i)), V.bl (decide (4 = i)), V.bl (decide (5 = i)), V.bl (decide (6 = i)), V.bl (decide (7 = i)), V.bl (decide (8 = i)), V.bl (decide (9 = i)), V.bl (decide (10 = i)), V.bl (decide (11 = i)), V.bl (decide (12 = i)), V.bl (decide (13 = i)), V.bl (decide (14 = i)), V.bl (decide (15 = i)), V.bl (decide (16 = i)), V.bl (decide (17 = i)), V.bl (decide (18 = i)), V.bl (decide (19 = i)), V.bl (decide (20 = i)), V.bl (decide (21 = i)), V.bl (decide (22 = i)), V.bl (decide (23 = i)), V.bl (decide (24 = i)), V.bl (decide (25 = i))]) = F7
    intro z7 n7
    have hb7 := ha7.mono z7
    refine is_run kt hi (by decide) hb7 ?_
    refine ⟨hz _ (by decide), fun p8 hp8 => ?_⟩
    have y8 := ExtH.new (o := HO.lst [V.bl (decide (26 = i))]) hp8
    have l8 := upd_same (H := F7) (a := p8) (o := HO.lst [V.bl (decide (26 = i))])
    revert y8 l8
    generalize upd F7 p8 (HO.lst [V.bl (decide (26 = i))]) = G8
    intro y8 l8
    have ha8 := hb7.mono y8
    refine ⟨_, (y8 _ _ n7), _, l8, hz _ (by simp only [List.length_cons, List.length_nil]; decide), fun q8 hq8 => ?_⟩
    have z8 := ExtH.new (o := HO.lst [V.bl (decide (0 = i)), V.bl (decide (1 = i)), V.bl (decide (2 = i)), V.bl (decide (3 = i)), V.bl (decide (4 = i)), V.bl (decide (5 = i)), V.bl (decide (6 = i)), V.bl (decide (7 = i)), V.bl (decide (8 = i)), V.bl (decide (9 = i)), V.bl (decide (10 = i)), V.bl (decide (11 = i)), V.bl (decide (12 = i)), V.bl (decide (13 = i)), V.bl (decide (14 = i)), V.bl (decide (15 = i)), V.bl (decide (16 = i)), V.bl (decide (17 = i)), V.bl (decide (18 = i)), V.bl (decide (19 = i)), V.bl (decide (20 = i)), V.bl (decide (21 = i)), V.bl (decide (22 = i)), V.bl (decide (23 = i)), V.bl (decide (24 = i)), V.bl (decide (25 = i)), V.bl (decide (26 = i))]) hq8
    have n8 : upd G8 q8 (HO.lst [V.bl (decide (0 = i)), V.bl (decide (1 = i)), V.bl (decide (2 = i)), V.bl (decide (3 = i)), V.bl (decide (4 = i)), V.bl (decide (5 = i)), V.bl (decide (6 = i)), V.bl (decide (7 = i)), V.bl (decide (8 = i)), V.bl (decide (9 = i)), V.bl (decide (10 = i)), V.bl (decide (11 = i)), V.bl (decide (12 = i)), V.bl (decide (13 = i)), V.bl (decide (14 = i)), V.bl (decide (15 = i)), V.bl (decide (16 = i)), V.bl (decide (17 = i)), V.bl (decide (18 = i)), V.bl (decide (19 = i)), V.bl (decide (20 = i)), V.bl (decide (21 = i)), V.bl (decide (22 = i)), V.bl (decide (23 = i)), V.bl (decide (24 = i)), V.bl (decide (25 = i)), V.bl (decide (26 = i))]) q8 = some (.lst [V.bl (decide (0 = i)), V.bl (decide (1 = i)), V.bl (decide (2 = i)), V.bl (decide (3 = i)), V.bl (decide (4 = i)), V.bl (decide (5 = i)), V.bl (decide (6 = i)), V.bl (decide (7 = i)), V.bl (decide (8 = i)), V.bl (decide (9 = i)), V.bl (decide (10 = i)), V.bl (decide (11 = i)), V.bl (decide (12 = i)), V.bl (decide (13 = i)), V.bl (decide (14 = i)), V.bl (decide (15 = i)), V.bl (decide (16 = i)), V.bl (decide (17 = i)), V.bl (decide (18 = i)), V.bl (decide (19 = i)), V.bl (decide (20 = i)), V.bl (decide (21 = i)), V.bl (decide (22 = i)), V.bl (decide (23 = i)), V.bl (decide (24 = i)), V.bl (decide (25 = i)), V.bl (decide (26 = i))]) := upd_same
    revert z8 n8
    simp only [List.cons_append, List.nil_append]
    generalize upd G8 q8 (HO.lst [V.bl (decide (0 = i)), V.bl (decide (1 = i)), V.bl (decide (2 = i)), V.bl (decide (3 = i)), V.bl (decide (4 = i)), V.bl (decide (5 = i)), V.bl (decide (6 = i)), V.bl (decide (7 = i)), V.bl (decide (8 = i)), V.bl (decide (9 = i)), V.bl (decide (10 = i)), V.bl (decide (11 = i)), V.bl (decide (12 = i)), V.bl (decide (13 = i)), V.bl (decide (14 = i)), V.bl (decide (15 = i)), V.bl (decide (16 = i)), V.bl (decide (17 = i)), V.bl (decide (18 = i)), V.bl (decide (19 = i)), V.bl (decide (20 = i)), V.bl (decide (21 = i)), V.bl (decide (22 = i)), V.bl (decide (23 = i)), V.bl (decide (24 = i)), V.bl (decide (25 = i)), V.bl (decide (26 = i))]) = F8
    intro z8 n8
    have hb8 := ha8.mono z8
    exact k q8 _ (ExtH.trans y0 (ExtH.trans y1 (ExtH.trans z1 (ExtH.trans y2 (ExtH.trans z2 (ExtH.trans y3 (ExtH.trans z3 (ExtH.trans y4 (ExtH.trans z4 (ExtH.trans y5 (ExtH.trans z5 (ExtH.trans y6 (ExtH.trans z6 (ExtH.trans y7 (ExtH.trans z7 (ExtH.trans y8 z8)))))))))))))))) n8
end

end YY

set_option maxRecDepth 100000
set_option maxHeartbeats 4000000
namespace YY
open PySem PySem.Spec PyProof.Rows L2 XX
local macro_rules | `(tactic| walk_at "wp") => `(tactic| simp only [Int.zero_add, L2.start, LcEnd, List.append_nil, List.cons.injEq, List.cons_append, List.getElem?_cons_succ, List.getElem?_cons_zero, List.length_cons, List.length_nil, List.map_cons, List.map_nil, List.nil_append, List.replicate, List.replicate_succ, List.replicate_zero, List.set_cons_succ, List.set_cons_zero, Nat.reduceAdd, Nat.reduceSub, Option.some.injEq, StX.tMakeR, StX.tStar, V.bl.injEq, V.int.injEq, V.ref.injEq, V.str.injEq, V.ty.injEq, WE, and_assoc, and_false, and_true, bool_ite_false, bool_ite_true, cxOf_K, cxOf_noxK, dec_ite, decide_eq_true_eq, exists_and_left, exists_and_right, exists_const, exists_eq_left, exists_eq_left', false_and, false_or, gCons, gName, gNil, gSub, gTup, iEnumA, iItems, iKeys, iList, iRng1, iRng2, iStr, iTup, iZipB, ite_false, ite_true, ndec_ite, or_false, rAppend, rCat, rCatT, rEq, rEqI, rEqK, rEqV, rExt2, rI, rI0, rIn, rInRg, rIndex, rIsD, rIsE, rIsE2, rIxD, rIxL, rIxS, rIxT, rLenI, rLenK, rListStr, rMax, rMaxDef, rSetIM, rEqT, sFldAug, rAdd, rMin, rMulS, rNe, rNeDA, rNeV, rRange1, rRep, rRepA, rReprE, rReprI, rSetD, rSetI, rSetL, rSlL, rSlT, rSortedSet, rU, reduceCtorEq, reduceIte, sFld, tAnd, tAndV, tAsg, tAug, tB, tBM, tBM0, tC, tCB, tCKw, tDGetT, tCall, tCallS, tChain, tCons, tDGet, tDIn, tDNewK, tDNotIn, tDcT_eq, tDc_eq, tDisp, tDrop, tErr, tFld, tFor_eq, tIf, tIfS, tIxI, tLc2_eq, tLc_eq, tLenSetS, tLock, tLockE, tLst, tLstRg, tM1, tMakeRS, tMakeS, tMakeV, tMakeVS, tMeth, tMethX, tMkO, tMulA, tMulD, tNext, tNil, tNoPart, tNot, tNotV, tOp, tOpI, tOpR, tOr, tOrV, tOst, tPairs, tPar, tPar3, tPart, tRet, tRetN, tRevT, tRg2, tSMeth, tSeq, tSl, tTest, tTup, tUn, tVar, tVeI, tXf, tYes, true_and, wAs, wMA, wipe])
theorem extSqL {K : PySem.W.Frag} {H H' : Hp} {a : Addr} {xs : List V} (e : ExtH H H') (h : SqL K H a xs) : SqL K H' a xs := by
  rcases h with (h | ⟨o, h⟩) | h
  · exact .inl (.inl (e _ _ h))
  · exact .inl (.inr ⟨o, e _ _ h⟩)
  · exact .inr h
theorem extSqT {K : PySem.W.Frag} {H H' : Hp} {a : Addr} {xs : List V} (e : ExtH H H') (h : SqT K H a xs) : SqT K H' a xs := by
  rcases h with (h | ⟨o, h⟩) | h
  · exact .inl (.inl (e _ _ h))
  · exact .inl (.inr ⟨o, e _ _ h⟩)
  · exact .inr h
mutual
theorem dp_ext {K : PySem.W.Frag} {H H' : Hp} (e : ExtH H H') : ∀ (d : PyData) (v : V), Dp K H v d → Dp K H' v d
  | .none, _, h => by
    cases h
    exact .non
  | .bool b, _, h => by
    cases h
    exact .bl b
  | .int i, _, h => by
    cases h
    exact .int i
  | .str x, _, h => by
    cases h
    exact .str x
  | .list ds, _, h => by
    cases h with
    | lst hs ha => exact .lst (extSqL e hs) (dps_ext e ds _ ha)
  | .tuple ds, _, h => by
    cases h with
    | tup hs ha => exact .tup (extSqT e hs) (dps_ext e ds _ ha)
  | .dict _, _, h => nomatch h
theorem dps_ext {K : PySem.W.Frag} {H H' : Hp} (e : ExtH H H') : ∀ (ds : List PyData) (vs : List V), DpAll K H vs ds → DpAll K H' vs ds
  | [], _, h => by
    cases h
    exact .nil
  | d :: ds, _, h => by
    cases h with
    | cons h1 h2 => exact .cons (dp_ext e d _ h1) (dps_ext e ds _ h2)
end
/-- script + [..] -/
def rCatS (K : PySem.W.Frag) : R2 := fun x y H Q => ∃ l b xs zs, x = .ref l ∧ y = .ref b ∧ SqL K H l xs ∧ SqL K H b zs ∧ xs.length + zs.length ≤ sizeLine ∧ ∀ p, H p = none → Q (.ref p) (upd H p (.lst (xs ++ zs)))
theorem op_catS {X : Cx} : OpR X (binaryOp .Add) (rCatS X.K) := by
  intro pins s σ H x y v u Q I rx ry h
  obtain ⟨l, b, xs, zs, rfl, rfl, hH, hB, hz, q⟩ := h
  cases rx
  cases ry
  obtain ⟨its, r, p1, hl⟩ := I.list hH
  obtain ⟨its2, r2, p2, hl2⟩ := I.list hB
  obtain ⟨o1, n1, e1, t1, _, d1⟩ := p1
  obtain ⟨o2, n2, e2, t2, _, d2⟩ := p2
  obtain ⟨cls, dd, data, sl⟩ := o1
  obtain ⟨cls2, dd2, data2, sl2⟩ := o2
  simp only at t1 d1 t2 d2
  subst t1 d1 t2 d2
  have e : its.toArray ++ its2.toArray = (its ++ its2).toArray := by simp
  have lr : its.length + its2.length ≤ sizeLine := by rw [← r.length, ← r2.length]; exact hz
  refine concat_meets ⟨_, e1, rfl⟩ ⟨_, e2, rfl⟩ noFill_list_add seq_list_add PySem.F.slot_list_add PySem.F.entry_list_add (PySem.F.args_list_add_2 _ _) (list_addW l b its.toArray its2.toArray n1 n2 dd dd2 sl sl2 (by simpa using lr)) ⟨e1, e2, ?_⟩
  rw [e]
  exact ⟨.ref _, _, I.lnew (t' := s.toks) (r.append r2) (by rw [List.length_append]; omega), rfl, q _ I.fresh⟩
/-! ### the thing -/
def dA1 : PyData := .dict [(.str "a", .int 1)]
def ThAt (K : PySem.W.Frag) (H : Hp) (v : V) (d : PyData) : Prop := Dp K H v d ∨ (d = dA1 ∧ ∃ a, v = .ref a ∧ H a = some (.dK [(.inr "a", .int 1)]))
theorem ThAt.mono {K : PySem.W.Frag} {H H' : Hp} {v : V} {d : PyData} (h : ThAt K H v d) (x : ExtH H H') : ThAt K H' v d := by
  rcases h with h | ⟨rfl, a, rfl, h⟩
  · exact .inl (dp_ext x d v h)
  · exact .inr ⟨rfl, a, rfl, x _ _ h⟩
def rReprT (K : PySem.W.Frag) : List V → Hp → VK → Prop := fun xs H Q => ∃ (v : V) (d : PyData), xs = [v] ∧ ThAt K H v d ∧ Rp d ∧ Q (.str d.shown) H
theorem reads_a1 {P : Program} {w : World} {h : Heap} {es : List DictEntry} {vs : List (Key × Value)} (hp : Pairs (mixKind P w) es vs) (kv : KV [(.inr "a", .int 1)] vs) :
    ReadsAll h (es.map (·.key)) [.str "a"] [] ∧ ReadsAll h (es.map (·.val)) [.int 1] [] := by
  cases kv with
  | cons a t =>
    cases t
    obtain ⟨e, r⟩ := a
    cases hp with
    | cons h1 h2 h3 =>
      cases h3
      rw [← e] at h1
      constructor
      · rw [List.map_cons, List.map_nil, ← List.nil_append ([] : List Addr)]
        refine .cons ?_ .nil
        have h1' : keyIs (.inr "a") _ = true := h1
        rcases keyIs_shape h1' with ⟨i, t, a, b⟩ | ⟨i, t, a, b⟩
        · cases a
        · cases a
          rw [b]
          exact .str _ t
      · rw [List.map_cons, List.map_nil, ← List.nil_append ([] : List Addr)]
        refine .cons ?_ .nil
        rw [h2]
        obtain ⟨t, r⟩ := r
        rw [r]
        exact .int 1 t
theorem call_reprT {X : Cx} (hg : X.A.guards = some []) (hu : X.A.units + 80 < cLine) : CallR X (.builtin "repr") (rReprT X.K) := by
  intro pins s σ H xs us Q I r h
  obtain ⟨v, d, rfl, hd, hp, q⟩ := h
  rcases hd with hd | ⟨rfl, a, rfl, ha⟩
  · exact call_reprD hg hu pins s σ H [v] us Q I r ⟨v, d, rfl, hd, hp.sh, dp_noDict d v hd, hp.dp, hp.ln, q⟩
  · obtain ⟨u, rfl, ru⟩ := vals1 r
    cases ru
    obtain ⟨_, hm, vs, kv, hdict⟩ := dk_of I.hok ha
    obtain ⟨o, es, ep, ho, hc, hd2, _, hps, _⟩ := hdict
    obtain ⟨r1, r2⟩ := reads_a1 (h := s.heap) hps kv
    have rd : Reads s.heap (.ref a) dA1 (a :: [] ++ []) := .dict ho hc.1 hd2 r1 r2
    refine repr_of_reads' rd hp.sh (fun _ hin => ?_) hg (by have := hp.dp; omega) (fun _ _ e => e) (fun h' u tk hk => ⟨.str _, H, I.kept (t' := tk) hk, ⟨_, rfl⟩, q⟩) hp.ln
    have e1 : sysModules = a := by simpa using hin
    rw [e1] at hm
    simp at hm

end YY

set_option maxRecDepth 100000
set_option maxHeartbeats 4000000
namespace YY
open PySem PySem.Spec PyProof.Rows L2 XX
local macro_rules | `(tactic| walk_at "wp") => `(tactic| simp only [Int.zero_add, L2.start, LcEnd, List.append_nil, List.cons.injEq, List.cons_append, List.getElem?_cons_succ, List.getElem?_cons_zero, List.length_cons, List.length_nil, List.map_cons, List.map_nil, List.nil_append, List.replicate, List.replicate_succ, List.replicate_zero, List.set_cons_succ, List.set_cons_zero, Nat.reduceAdd, Nat.reduceSub, Option.some.injEq, StX.tMakeR, StX.tStar, V.bl.injEq, V.int.injEq, V.ref.injEq, V.str.injEq, V.ty.injEq, WE, and_assoc, and_false, and_true, bool_ite_false, bool_ite_true, cxOf_K, cxOf_noxK, dec_ite, decide_eq_true_eq, exists_and_left, exists_and_right, exists_const, exists_eq_left, exists_eq_left', false_and, false_or, gCons, gName, gNil, gSub, gTup, iEnumA, iItems, iKeys, iList, iRng1, iRng2, iStr, iTup, iZipB, ite_false, ite_true, ndec_ite, or_false, rAppend, rCat, rCatT, rEq, rEqI, rEqK, rEqV, rExt2, rI, rI0, rIn, rInRg, rIndex, rIsD, rIsE, rIsE2, rIxD, rIxL, rIxS, rIxT, rLenI, rLenK, rListStr, rMax, rMaxDef, rSetIM, rEqT, sFldAug, rAdd, rMin, rMulS, rNe, rNeDA, rNeV, rRange1, rRep, rRepA, rReprE, rReprI, rSetD, rSetI, rSetL, rSlL, rSlT, rSortedSet, rU, reduceCtorEq, reduceIte, sFld, tAnd, tAndV, tAsg, tAug, tB, tBM, tBM0, tC, tCB, tCKw, tDGetT, tCall, tCallS, tChain, tCons, tDGet, tDIn, tDNewK, tDNotIn, tDcT_eq, tDc_eq, tDisp, tDrop, tErr, tFld, tFor_eq, tIf, tIfS, tIxI, tLc2_eq, tLc_eq, tLenSetS, tLock, tLockE, tLst, tLstRg, tM1, tMakeRS, tMakeS, tMakeV, tMakeVS, tMeth, tMethX, tMkO, tMulA, tMulD, tNext, tNil, tNoPart, tNot, tNotV, tOp, tOpI, tOpR, tOr, tOrV, tOst, tPairs, tPar, tPar3, tPart, tRet, tRetN, tRevT, tRg2, tSMeth, tSeq, tSl, tTest, tTup, tUn, tVar, tVeI, tXf, tYes, true_and, wAs, wMA, wipe])
abbrev sLaw : Stmt := topS 35
def plB (i : Nat) : Bool := decide (i < 18) || decide (21 < i)
def abB (i : Nat) : Bool := decide (18 ≤ i) && decide (i < 20)
def ovB (i : Nat) : Bool := decide (20 ≤ i) && decide (i < 22)
structure KitB (K : PySem.W.Frag) (cs : List Addr) (cL cA : Addr) : Prop where
  l : ∀ i, i < 26 → PySem.W.kitOne K (.ref (cs.getD i 0)) (.ref cL) = some (plB i)
  v : ∀ i, i < 26 → PySem.W.kitOne K (.ref (cs.getD i 0)) (.type "ValueError") = some (plB i)
  a : ∀ i, i < 26 → PySem.W.kitOne K (.ref (cs.getD i 0)) (.ref cA) = some (abB i)
  k : ∀ i, i < 26 → PySem.W.kitOne K (.ref (cs.getD i 0)) (.type "KeyError") = some (abB i)
  o : ∀ i, i < 26 → PySem.W.kitOne K (.ref (cs.getD i 0)) (.type "OverflowError") = some (ovB i)
  r : ∀ i, i < 26 → PySem.W.kitOne K (.ref (cs.getD i 0)) (.type "RuntimeError") = some false
  r26 : PySem.W.kitOne K (.ref (cs.getD 26 0)) (.type "RuntimeError") = some true
/-- the built-ins -/
structure Bl1 (mg : Str → Option Value) : Prop where
  T : Bl mg
  nE : mg "enumerate" = none
  nRp : mg "repr" = none
  nI : mg "isinstance" = none
  nR : mg "RuntimeError" = none
  nV : mg "ValueError" = none
  nK : mg "KeyError" = none
  nO : mg "OverflowError" = none
section
variable {P : Program} {w : World} {K : PySem.W.Frag} {mg : Str → Option Value} {base : Heap}
theorem fun_okG {f : Addr} {fd : FuncData} {CX : CXT} {x : Str} {st : Stmt} {N ps : List Str} {k : Nat} {sp : Sp} (F : L2.Fun K x x st f fd) (S : FnScope N ps (defScope st)) (len : ∀ vs H Q E, sp vs H Q E → vs.length = ps.length)
    (hbody : ∀ (cdv : Value) (A : Around) (outer : List Env) (s : Shared) (H : Hp) (vs : List V) (Q : VK) (E : XK), (A.deeper (envOfC x (defScope st) s.heap.objs.size f cdv)).guards = some [] → Room k (A.deeper (envOfC x (defScope st) s.heap.objs.size f cdv)) → sp vs H Q E →
      ∃ t, PSs (cxOf CX P w K mg base N x (defScope st) f cdv A outer s H E) (defBody st) t ∧ t { nx := fun _ H' => Q .non H', rt := Q } (L2.start N vs) H) : FnG P w K mg base CX (k + 1) f fd ps sp := by
  refine ⟨len, fun A outer s H args us vs Q E hg hr e0 hbd r hsp => ?_⟩
  obtain ⟨oc, od, kV, doc, pm, an, cdv, ct, osl, rfl, lk, hcd⟩ := F.ex
  have len0 := len _ _ _ _ hsp
  have hin : K.In s.heap := e0.mod.kin.keeps fun b o q => (e0.bs b o q).1
  have hnl : s.heap.NoLimit := e0.mod.nolimit.keeps fun b o q => (e0.bs b o q).1
  have knd : ∀ y ∈ ps.zip us, (defScope st).names.lookup y.1 = some .local ∨ ((defScope st).names.lookup y.1 = some .cell ∧ ((cellsFrom (s.heap.objs.size + 1) (defScope st).names []).lookup y.1).isSome = true) := by
    rintro ⟨n, v⟩ hy
    exact (S.par n (List.of_mem_zip hy).1).imp id fun q => ⟨q, PySem.W.cellsFrom_some _ _ _ (.inl q)⟩
  refine codeAny_call_function hr.depth (hin _ _ lk) rfl S.co S.gen rfl (PySem.W.codeRec_of hin hcd) (hbd _ _ _ _ (wpAny_newFunctionEnv_cells S.kind knd fun env he s1 x1 => ?_))
  subst he
  refine ⟨hnl.keeps x1.toInCall.keep, codeAny_func ?_⟩
  obtain ⟨t, ht, hq⟩ := hbody cdv A outer s H vs Q E (guards_deeper hg) (hr.deeper _) hsp
  have fin : ∀ {s' : Shared} {τ : L2.St} {H' : Hp} {v : V} {u : Value}, Inv (cxOf CX P w K mg base N x (defScope st) f cdv A outer s H E) [] τ H' s' → RelV v u → Q v H' → CE outer P w H s Q u s' :=
    fun J rv q => ⟨_, _, J.os, J.bare, J.base, J.hok, rv, q⟩
  refine wpAny_mono (ht.run [] s1 (L2.start N vs) H _ (inv_start S hr.hd e0 len0 r x1) hq) (fun fl s' hs => ?_) fun e s' hs => hs
  match fl, hs with
  | .ret u, ⟨v, τ, H', J, rv, q⟩ => exact fin J rv q
  | .next, ⟨τ, H', J, q⟩ => exact fin (v := V.non) (u := Value.none) J rfl q
  | .brk, ⟨_, _, _, q⟩ => exact q.elim
  | .cont, ⟨_, _, _, q⟩ => exact q.elim

def Sl (a : V) (τ : L2.St) : Prop := ∃ u1 u2 u3 u4 u5 u6 u7 u8 u9 : Option V, τ = [some a, u1, u2, u3, u4, u5, u6, u7, u8, u9]
def spLaw (K : PySem.W.Frag) : Sp := fun vs H Q _ => ∃ (a : Addr) (ns : List Int), vs = [.ref a] ∧ ns.length ≤ 63 ∧ SqL K H a (ns.map V.int) ∧ ∀ H', Q (.bl true) H'
theorem scLaw : FnScope ["script", "cell", "thing", "made", "last", "at", "one", "k", "kinds", "plain"] ["script"] (defScope sLaw) := ⟨rfl, rfl, rfl, by decide +kernel, rfl, by decide +kernel, by decide +kernel⟩
/-- an exception of the class C, as the law asks of it -/
theorem isk_run {H : Hp} {a C : Addr} {c : V} {u : Value} {b : Bool} {Q : VK} (kt : PySem.W.kitOne K (.ref C) u = some b) (hc : ClsV c u) (h : ExcAt K H a C) (q : Q (.bl b) H) : rIsiX K [.ref a, c] H Q := by
  obtain ⟨d, B, T, n, h1, h2, h3⟩ := h
  exact ⟨a, C, d, B, T, n, _, _, _, rfl, hc, h1, h2, h3, kt, q⟩
theorem paired_imp {α β : Type} {R S : α → β → Prop} (h : ∀ a b, R a b → S a b) : ∀ {xs : List α} {ys : List β}, Paired R xs ys → Paired S xs ys
  | _, _, .nil => .nil
  | _, _, .cons a r => .cons (h _ _ a) (paired_imp h r)
theorem paired_get {α β : Type} {R : α → β → Prop} : ∀ {xs : List α} {ys : List β}, Paired R xs ys → ∀ {i : Nat} {x : α}, xs[i]? = some x → ∃ y, ys[i]? = some y ∧ R x y
  | _, _, .nil, _, _, e => by simp at e
  | _, _, .cons a r, 0, _, e => by
    cases e
    exact ⟨_, rfl, a⟩
  | _, _, .cons a r, i + 1, _, e => paired_get r e
theorem bits_fm (i : Nat) : (bits i).map V.bl = (List.range 27).filterMap (fun j => some (V.bl (decide (j = i)))) := by
  unfold bits
  rw [List.map_map]
  rfl
theorem eqv_bools {H : Hp} : ∀ {xs ys : List Bool}, xs = ys → Paired (EqV K H 1) (xs.map V.bl) (ys.map V.bl)
  | [], _, rfl => .nil
  | b :: r, _, rfl => .cons (.inl ⟨rfl, rfl⟩) (eqv_bools rfl)
theorem eqv_bits {H : Hp} {xs : List Bool} {ys : List V} (h : xs.map V.bl = ys) : Paired (EqV K H 1) (xs.map V.bl) ys := by
  subst h
  exact eqv_bools rfl
theorem c_law {cs : List Addr} {cL cA f : Addr} {fd : FuncData} {bmB : List Value} (F : L2.Fun K "law" "law" sLaw f fd) (B : Bl1 mg) (KB : KitB K cs cL cA) (gL : mg "LanesError" = some (.ref cL)) (gA : mg "Absent" = some (.ref cA)) (hcs : cs.length = 27)
    (g26 : mg "NothingToUndo" = some (.ref (cs.getD 26 0))) (e26 : PySem.W.excIn K (cs.getD 26 0) bmB "RuntimeError.__new__" = true) (F26 : ExcBaseFacts "RuntimeError" "RuntimeError.__new__" "RuntimeError.__init__" bmB) (X26 : XCls K "RuntimeError" "RuntimeError" "RuntimeError.__new__" (cs.getD 26 0))
    (cN : FnC P w K mg base CX0 1 "_law_numbers" ["cell", "salt", "sizes"] (spNumbers K)) (cM : FnC P w K mg base CX0 3 "_law_made" ["thing"] (spMade K cs)) (cK : FnC P w K mg base CX0 2 "_law_marks" ["e"] (spMarks K cs)) : FnG P w K mg base CX0 4 f fd ["script"] (spLaw K) := by
  refine fun_okG F scLaw (fun vs H Q E h => ?_) (fun cdv A outer s H vs Q E hgu hr h => ?_)
  · obtain ⟨a, ns, rfl, _⟩ := h
    rfl
  · obtain ⟨a, ns, rfl, hn, hS, k⟩ := h
    have sc := scLaw
    have hr1 : Room 1 _ := hr.mono (by decide)
    have hr2 : Room 2 _ := hr.mono (by decide)
    have hu80 : (A.deeper (envOfC "law" (defScope sLaw) s.heap.objs.size f cdv)).units + 80 < cLine := by have := hr.un; omega
    refine ⟨_, (pss_cons (ps_set (i := 1) sc.nd rfl (Or.inl rfl) (pe_ix ix_list (pe_op op_catS (pv 0) (pe_lst (pa_cons pe_int pa_nil))) pe_int (fun _ _ => rfl)))
    (pss_cut (ps_set (i := 2) sc.nd rfl (Or.inl rfl) (pe_ix ix_list (pe_lst (pa_cons pe_non (pa_cons pe_int (pa_cons pe_str (pa_cons (pe_tup (pa_cons pe_int (pa_cons pe_int pa_nil))) (pa_cons (pe_lst (pa_cons pe_int pa_nil)) (pa_cons (pe_disp (pps_cons pe_str pe_int pps_nil) rfl rfl (by simp) (by decide)) (pa_cons pe_bl (pa_cons (pe_op op_pow pe_int pe_int) (pa_cons pe_str pa_nil)))))))))) (pe_ix ix_list (pe_c cN hr1 rfl (pa_cons (pv 1) (pa_cons pe_int (pa_cons (pe_lst (pa_cons pe_int pa_nil)) pa_nil)))) pe_int (fun _ _ => rfl)) (fun _ _ => rfl)))
    (pss_cut (ps_par (i := 3) (j := 4) (by rfl) sc.nd rfl rfl (by decide) rfl rfl (pa_cons (pe_c cM hr rfl (pa_cons (pv 2) pa_nil)) (pa_cons (pe_makeX0 F26 e26 g26 X26.kC (by rfl)) pa_nil)) (by rfl))
    (pss_cut (ps_if (PW.pt (pw_or (pt_cmpR (op_neV hr.units) (pe_c cK hr2 rfl (pa_cons (pv 4) pa_nil)) (pe_op op_cat (pe_op op_rep (pe_lst (pa_cons pe_bl pa_nil)) pe_int) (pe_lst (pa_cons pe_bl pa_nil))) (nomark _)) (pw_or1 (pt_not (pt_val (pe_callB call_isiX (by rfl) B.nI (by decide +kernel) (pa_cons (pv 4) (pa_cons (pe_ty "RuntimeError" (by rfl) B.nR) pa_nil)))))))) (pss_one (ps_ret pe_bl)) pss_nil)
    (pss_cut (ps_for (passes_of rfl) rfl (pi_enumA false (by rfl) B.nE (pa_cons (pv 3) pa_nil)) (pg_tup (by rfl) (pgs_cons (pg_name (i := 5) sc.nd rfl (Or.inr rfl)) (pgs_cons (pg_name (i := 6) sc.nd rfl (Or.inl rfl)) pgs_nil)))
      (pss_cut (ps_if (PW.pt (pw_or (pt_cmpR (op_neV hr.units) (pe_c cK hr2 rfl (pa_cons (pv 6) pa_nil)) (pe_lc (own := [("k", 7)]) (g := gName 7) (tt := tYes) rfl sc.nd (pi_range1 (by rfl) B.T.n_range (pa_cons pe_int pa_nil)) (blkOk_by (N := ["script", "cell", "thing", "made", "last", "at", "one", "k", "kinds", "plain"]) (sc := defScope sLaw) (by decide +kernel)) (fun _ _ _ _ _ => (pg_name (i := 7) sc.nd rfl (Or.inl rfl))) (fun _ _ _ _ _ => pts_nil) (fun _ _ _ _ _ => (pe_cmpR op_eq (pv 7) (pv 5) (nomark _)))) (nomark _)) (pw_or1 (pt_cmpR op_ne (pe_callB (call_reprT hgu hu80) (by rfl) B.nRp (by decide +kernel) (pa_cons (pe_fldX (pv 6)) pa_nil)) (pe_callB (call_reprT hgu hu80) (by rfl) B.nRp (by decide +kernel) (pa_cons (pv 2) pa_nil)) (nomark _))))) (pss_one (ps_ret pe_bl)) pss_nil)
      (pss_cut (ps_set (i := 8) sc.nd rfl (Or.inl rfl) (pe_lst (pa_cons (pe_callB call_isiX (by rfl) B.nI (by decide +kernel) (pa_cons (pv 6) (pa_cons (pe_glob (v := .ref cL) rfl gL rfl) pa_nil))) (pa_cons (pe_callB call_isiX (by rfl) B.nI (by decide +kernel) (pa_cons (pv 6) (pa_cons (pe_ty "ValueError" (by rfl) B.nV) pa_nil))) (pa_cons (pe_callB call_isiX (by rfl) B.nI (by decide +kernel) (pa_cons (pv 6) (pa_cons (pe_glob (v := .ref cA) rfl gA rfl) pa_nil))) pa_nil)))))
      (pss_cut (ps_set (i := 8) sc.nd rfl (Or.inl rfl) (pe_op op_cat (pv 8) (pe_lst (pa_cons (pe_callB call_isiX (by rfl) B.nI (by decide +kernel) (pa_cons (pv 6) (pa_cons (pe_ty "KeyError" (by rfl) B.nK) pa_nil))) (pa_cons (pe_callB call_isiX (by rfl) B.nI (by decide +kernel) (pa_cons (pv 6) (pa_cons (pe_ty "OverflowError" (by rfl) B.nO) pa_nil))) pa_nil)))))
      (pss_cut (ps_set (i := 9) sc.nd rfl (Or.inl rfl) (pe_or (pe_cmpR op_lt (pv 5) pe_int (nomark _)) (L2.pe_one (pe_cmpR op_gt (pv 5) pe_int (nomark _)))))
      (pss_one (ps_if (PW.pt (pw_or (pt_cmpR (op_neV hr.units) (pv 8) (pe_lst (pa_cons (pv 9) (pa_cons (pv 9) (pa_cons (pe_chain op_le op_lt pe_int (pv 5) pe_int) (pa_cons (pe_chain op_le op_lt pe_int (pv 5) pe_int) (pa_cons (pe_chain op_le op_lt pe_int (pv 5) pe_int) pa_nil)))))) (nomark _)) (pw_or1 (pt_val (pe_callB call_isiX (by rfl) B.nI (by decide +kernel) (pa_cons (pv 6) (pa_cons (pe_ty "RuntimeError" (by rfl) B.nR) pa_nil))))))) (pss_one (ps_ret pe_bl)) pss_nil)))))))
    (pss_one (ps_ret pe_bl))))))), ?_⟩
    walk_at "wp"
    have hz : ∀ n : Nat, n ≤ 1000 → n ≤ sizeLine := fun n hn => by rw [sizeLine_eq]; omega
    refine ⟨hz _ (by decide), fun p hp => ⟨a, p, _, _, rfl, rfl, extSqL (ExtH.new hp) hS, SqL.of upd_same, hz _ (by rw [List.length_map, List.length_singleton]; omega), fun p2 hp2 => ⟨p2, rfl, _, SqL.of upd_same, ?_⟩⟩⟩
    have hc : ∃ c : Int, atI (ns.map V.int ++ [V.int 7]) 0 = some (.int c) := by
      cases ns with
      | nil => exact ⟨7, rfl⟩
      | cons c r => exact ⟨c, by simp only [atI, ixN]; simp; rw [if_pos (by omega)]; rfl⟩
    obtain ⟨c, hc⟩ := hc
    refine ⟨_, hc, ?_⟩
    generalize upd (upd H p (.lst [.int 7])) p2 (.lst (ns.map V.int ++ [V.int 7])) = H0
    refine ⟨fun τ G => ∃ v d, τ = [some (.ref a), some (.int c), some v, none, none, none, none, none, none, none] ∧ ThAt K G v d ∧ Rp d, ?_, ?_⟩
    · walk_at "wp"
      refine ⟨hz _ (by decide), fun t ht => ⟨hz _ (by decide), fun l hl dd hd => ⟨upd_same, [(.inr "a", .int 1)], rfl, by decide, ⟨by decide, by decide, by decide⟩, hz _ (by decide), fun L hL => ⟨hz _ (by decide), fun q hq => ?_⟩⟩⟩⟩
      have e1 := ExtH.new (o := HO.lst [V.int 3]) hl
      have f1 := upd_same (H := H0) (a := t) (o := HO.tup [V.int 1, V.int 2])
      have f2 := upd_same (H := upd H0 t (HO.tup [V.int 1, V.int 2])) (a := l) (o := HO.lst [V.int 3])
      have f1' := e1 _ _ f1
      revert f1' f2 hd hL hq
      generalize upd (upd H0 t (HO.tup [V.int 1, V.int 2])) l (HO.lst [V.int 3]) = A2
      intro hd hL hq f2 f1'
      have e2 : ExtH A2 (upd (upd A2 dd (HO.dK [])) dd (HO.dK (mergeK [] [(.inr "a", .int 1)]))) := fun b o e => by
        have n : b ≠ dd := ne_of_none e hd
        rw [upd_ne n, upd_ne n]
        exact e
      have f3 : upd (upd A2 dd (HO.dK [])) dd (HO.dK (mergeK [] [(.inr "a", .int 1)])) dd = some (.dK [(.inr "a", .int 1)]) := upd_same
      revert e2 f3 hL hq
      generalize upd (upd A2 dd (HO.dK [])) dd (HO.dK (mergeK [] [(.inr "a", .int 1)])) = A4
      intro hL hq e2 f3
      have e4 := ExtH.new (o := HO.lst [V.non, V.int 5, V.str (Str.ofString "a"), V.ref t, V.ref l, V.ref dd, V.bl true, V.int (10 ^ Int.toNat 30), V.str (Str.ofString "")]) hL
      have f4 := upd_same (H := A4) (a := L) (o := HO.lst [V.non, V.int 5, V.str (Str.ofString "a"), V.ref t, V.ref l, V.ref dd, V.bl true, V.int (10 ^ Int.toNat 30), V.str (Str.ofString "")])
      revert e4 f4 hq
      generalize upd A4 L (HO.lst [V.non, V.int 5, V.str (Str.ofString "a"), V.ref t, V.ref l, V.ref dd, V.bl true, V.int (10 ^ Int.toNat 30), V.str (Str.ofString "")]) = A5
      intro hq e4 f4
      have e5 := ExtH.new (o := HO.lst [V.int 9]) hq
      have f5 := upd_same (H := A5) (a := q) (o := HO.lst [V.int 9])
      revert e5 f5
      generalize upd A5 q (HO.lst [V.int 9]) = A6
      intro e5 f5
      refine ⟨c, 100, q, [9], rfl, SqL.of f5, by decide, by decide, by decide, fun z hz => ?_, fun p ns hp hl h0 h1 => ?_⟩
      · obtain rfl : z = 9 := List.mem_singleton.mp hz
        decide
      have e6 := ExtH.new (o := HO.lst (nums ns)) hp
      obtain ⟨n0, rfl⟩ : ∃ n, ns = [n] := by
        match ns, hl with
        | [n], _ => exact ⟨n, rfl⟩
      have b0 := h0 n0 (List.mem_singleton.mpr rfl)
      have b1 := h1 0 n0 9 rfl rfl
      have x : ExtH A4 (upd A6 p (HO.lst (nums [n0]))) := (e4.trans e5).trans e6
      refine ⟨p, rfl, _, SqL.of upd_same, V.int n0, rfl, _, n0, rfl, SqL.of (e6 _ _ (e5 _ _ f4)), ?_⟩
      have g1 : SqT K (upd A6 p (HO.lst (nums [n0]))) t [V.int 1, V.int 2] := SqT.of (x _ _ (e2 _ _ f1'))
      have g2 : SqL K (upd A6 p (HO.lst (nums [n0]))) l [V.int 3] := SqL.of (x _ _ (e2 _ _ f2))
      have g3 := x _ _ f3
      generalize upd A6 p (HO.lst (nums [n0])) = A7 at g1 g2 g3
      have hcs : n0 = 0 ∨ n0 = 1 ∨ n0 = 2 ∨ n0 = 3 ∨ n0 = 4 ∨ n0 = 5 ∨ n0 = 6 ∨ n0 = 7 ∨ n0 = 8 := by omega
      rcases hcs with rfl | rfl | rfl | rfl | rfl | rfl | rfl | rfl | rfl
      · exact ⟨_, rfl, .none, .inl .non, ⟨by decide +kernel, by decide +kernel, hz _ (by decide +kernel)⟩⟩
      · exact ⟨_, rfl, .int 5, .inl (.int 5), ⟨by decide +kernel, by decide +kernel, hz _ (by decide +kernel)⟩⟩
      · exact ⟨_, rfl, .str "a", .inl (.str _), ⟨by decide +kernel, by decide +kernel, hz _ (by decide +kernel)⟩⟩
      · exact ⟨_, rfl, .tuple [.int 1, .int 2], .inl (.tup g1 (.cons (.int 1) (.cons (.int 2) .nil))), ⟨by decide +kernel, by decide +kernel, hz _ (by decide +kernel)⟩⟩
      · exact ⟨_, rfl, .list [.int 3], .inl (.lst g2 (.cons (.int 3) .nil)), ⟨by decide +kernel, by decide +kernel, hz _ (by decide +kernel)⟩⟩
      · exact ⟨_, rfl, dA1, .inr ⟨rfl, dd, rfl, g3⟩, ⟨by decide +kernel, by decide +kernel, hz _ (by decide +kernel)⟩⟩
      · exact ⟨_, rfl, .bool true, .inl (.bl true), ⟨by decide +kernel, by decide +kernel, hz _ (by decide +kernel)⟩⟩
      · exact ⟨_, rfl, .int (10 ^ Int.toNat 30), .inl (.int _), ⟨by decide +kernel, by decide +kernel, hz _ (by decide +kernel)⟩⟩
      · exact ⟨_, rfl, .str "", .inl (.str _), ⟨by decide +kernel, by decide +kernel, hz _ (by decide +kernel)⟩⟩
    rintro τ G1 ⟨v, d, rfl, hv, hrp⟩
    refine ⟨fun τ G => ∃ (p q : Addr) (rs : List Addr), τ = [some (.ref a), some (.int c), some v, some (.ref p), some (.ref q), none, none, none, none, none] ∧ ThAt K G v d ∧ G p = some (.lst (rs.map V.ref)) ∧ Paired (fun C r => OneAt K G r C v) (cs.take 26) rs ∧ ExcAt K G q (cs.getD 26 0), ?_, ?_⟩
    · walk_at "wp"
      refine ⟨v, rfl, fun p rs G2 x1 hp2 hrs q hq => ?_⟩
      have x2 := ExtH.new (o := exo q (cs.getD 26 0) none) hq
      exact ⟨p, rfl, hv.mono (x1.trans x2), rs, x2 _ _ hp2, paired_imp (fun _ _ h => h.mono x2) hrs, ⟨none, _, _, _, X26, upd_same, fun dx e => nomatch e⟩⟩
    rintro τ G2 ⟨p, q, rs, rfl, hv2, hp2, hrs, hq⟩
    refine ⟨fun τ G => τ = [some (.ref a), some (.int c), some v, some (.ref p), some (.ref q), none, none, none, none, none] ∧ ExtH G2 G, ?_, ?_⟩
    · walk_at "wp"
      refine ⟨q, 26, rfl, by decide, hq, fun m G3 x1 hm => ?_⟩
      refine ⟨hz _ (by decide), fun l1 h1 => ⟨_, upd_same, by decide, by decide, hz _ (by simp only [List.length_cons, List.length_nil]; decide), fun l2 h2 => ⟨hz _ (by decide), fun l3 h3 => ?_⟩⟩⟩
      have y1 := ExtH.new (o := HO.lst [V.bl false]) h1
      have y2 := ExtH.new (o := HO.lst (List.replicate (Int.toNat 26) [V.bl false]).flatten) h2
      have y3 := ExtH.new (o := HO.lst [V.bl true]) h3
      have g2 := y3 _ _ (upd_same (H := upd G3 l1 (HO.lst [V.bl false])) (a := l2) (o := HO.lst (List.replicate (Int.toNat 26) [V.bl false]).flatten))
      refine ⟨_, g2, _, upd_same, hz _ (by decide), fun l4 h4 => ?_⟩
      have y4 := ExtH.new (o := HO.lst ((List.replicate (Int.toNat 26) [V.bl false]).flatten ++ [V.bl true])) h4
      have z : ExtH G3 _ := y1.trans (y2.trans (y3.trans y4))
      refine ⟨1, by decide, m, rfl, _, SqL.of (z _ _ hm), _, SqL.of upd_same, eqv_bits rfl, ?_⟩
      refine isk_run KB.r26 (.ty _) (hq.mono (x1.trans z)) ⟨true, rfl, ?_⟩
      exact x1.trans z
    rintro τ G3 ⟨rfl, x3⟩
    refine ⟨fun _ _ => True, ?_, fun τ G _ => k _⟩
    walk_at "wp"
    have lrs : rs.length = 26 := by
      have e := hrs.length
      rw [List.length_take, hcs] at e
      exact e.symm
    refine ⟨⟨_, SqL.of (x3 _ _ hp2)⟩, ?_⟩
    refine loop_it (walk_enumA (t := false) (xs := rs.map V.ref)) (fun i τ G => (∃ u5 u6 u7 u8 u9, τ = [some (.ref a), some (.int c), some v, some (.ref p), some (.ref q), u5, u6, u7, u8, u9]) ∧ ExtH G2 G) ⟨⟨_, _, _, _, _, rfl⟩, x3⟩ (fun i τ G _ h => SqL.of (h.2 _ _ hp2)) ?_ (fun τ G h => True.intro)
    rintro i x τ G4 G5 hi ⟨⟨u5, u6, u7, u8, u9, rfl⟩, x4⟩ ⟨T, y1, y2, rfl, hT, rfl, hy1, hy2⟩
    cases hy1
    dsimp only at hy2
    rw [List.getElem?_map] at hy2
    obtain ⟨r, hr, rfl⟩ := Option.map_eq_some_iff.mp hy2
    have hi26 : i < 26 := by
      rw [List.length_map, lrs] at hi
      exact hi
    have hC : (cs.take 26)[i]? = some (cs.getD i 0) := by
      rw [List.getElem?_take_of_lt hi26, List.getD_eq_getElem?_getD, List.getElem?_eq_getElem (by omega)]
      rfl
    obtain ⟨r', hr', one⟩ := paired_get hrs hC
    rw [hr] at hr'
    obtain rfl : r = r' := Option.some.inj hr'
    walk_at "wp"
    refine ⟨_, SqT.of upd_same, rfl, _, _, rfl, _, _, rfl, rfl, ?_⟩
    have x5 : ExtH G2 (upd G4 T (.tup [V.int (i : Nat), V.ref r])) := x4.trans (ExtH.new hT)
    generalize upd G4 T (.tup [V.int (i : Nat), V.ref r]) = G6 at x5
    refine ⟨fun τ G => τ = [some (.ref a), some (.int c), some v, some (.ref p), some (.ref q), some (.int (i : Nat)), some (.ref r), u7, u8, u9] ∧ ExtH G2 G, ?_, ?_⟩
    · walk_at "wp"
      refine ⟨r, i, rfl, by omega, one.exc.mono x5, fun m G7 y1 hm => ⟨by decide, by decide, ?_⟩⟩
      refine lcw_gen (walk_range (lo := 0) (n := 27)) (fun j => some (V.bl (decide (j = i)))) (by decide) (fun _ _ => True.intro) ?_ ?_
      · rintro j x G8 G9 Nx Q' hj hG hy q _
        obtain ⟨rfl, rfl⟩ := hy
        walk_at "wp"
        refine ⟨rfl, q _ _ ?_ ExtH.refl⟩
        show some (V.bl (decide (j = i))) = some (V.bl (decide ((j : Int) = (i : Int))))
        rw [decide_eq_decide.mpr (show j = i ↔ (j : Int) = (i : Int) by omega)]
      · intro D G8 hG hD hL
        have yb : ExtH G2 G8 := x5.trans (y1.trans hG)
        obtain ⟨dx, B', T', n', h1, h2, h3, h4⟩ := (one.mono yb).ex
        refine ⟨1, by decide, m, rfl, D, rfl, _, SqL.of (hG _ _ hm), _, SqL.of hL, eqv_bits (by rw [← bits_fm]), ?_⟩
        refine ⟨V.ref r, rfl, r, cs.getD i 0, dx, B', T', n', _, v, rfl, h1, h2, h3, h4, rfl, ?_⟩
        refine ⟨v, d, rfl, hv2.mono yb, hrp, ⟨v, d, rfl, hv2.mono yb, hrp, rfl, ?_⟩⟩
        rw [if_pos rfl]
        exact yb
    rintro τ G7 ⟨rfl, x7⟩
    refine ⟨fun τ G => ∃ l, τ = [some (.ref a), some (.int c), some v, some (.ref p), some (.ref q), some (.int (i : Nat)), some (.ref r), u7, some (.ref l), u9] ∧ ExtH G2 G ∧ G l = some (.lst [.bl (plB i), .bl (plB i), .bl (abB i)]), ?_, ?_⟩
    · walk_at "wp"
      refine isk_run (KB.l i hi26) (.own _) (one.exc.mono x7) ?_
      refine isk_run (KB.v i hi26) (.ty _) (one.exc.mono x7) ?_
      refine isk_run (KB.a i hi26) (.own _) (one.exc.mono x7) ?_
      refine ⟨hz _ (by decide), fun l hl => ⟨x7.trans (ExtH.new hl), upd_same⟩⟩
    rintro τ G8 ⟨l, rfl, x8, hl8⟩
    refine ⟨fun τ G => ∃ l, τ = [some (.ref a), some (.int c), some v, some (.ref p), some (.ref q), some (.int (i : Nat)), some (.ref r), u7, some (.ref l), u9] ∧ ExtH G2 G ∧ G l = some (.lst [.bl (plB i), .bl (plB i), .bl (abB i), .bl (abB i), .bl (ovB i)]), ?_, ?_⟩
    · walk_at "wp"
      refine isk_run (KB.k i hi26) (.ty _) (one.exc.mono x8) ?_
      refine isk_run (KB.o i hi26) (.ty _) (one.exc.mono x8) ?_
      refine ⟨hz _ (by decide), fun l1 h1 => ⟨_, (ExtH.new h1) _ _ hl8, _, upd_same, hz _ (by simp only [List.length_cons, List.length_nil]; decide), fun l2 h2 => ⟨x8.trans ((ExtH.new h1).trans (ExtH.new h2)), upd_same⟩⟩⟩
    rintro τ G9 ⟨l2, rfl, x9, hl9⟩
    refine ⟨fun τ G => τ = [some (.ref a), some (.int c), some v, some (.ref p), some (.ref q), some (.int (i : Nat)), some (.ref r), u7, some (.ref l2), some (.bl (plB i))] ∧ G = G9, ?_, ?_⟩
    · walk_at "wp"
      unfold plB
      split
      · rename_i h
        rw [decide_eq_true (show i < 18 by omega)]
        rfl
      · rename_i h
        rw [decide_eq_false (show ¬ i < 18 by omega), Bool.false_or]
        exact decide_eq_decide.mpr (by omega)
    rintro τ G10 ⟨rfl, rfl⟩
    walk_at "wp"
    have fin : ∀ (p : Addr) (b1 b2 b3 : Bool), G10 p = none → b1 = abB i → b2 = abB i → b3 = ovB i → ∃ n, n ≤ 60 ∧ ∃ x, SqL K (upd G10 p (.lst [.bl (plB i), .bl (plB i), .bl b1, .bl b2, .bl b3])) l2 x ∧ ∃ x_1, SqL K (upd G10 p (.lst [.bl (plB i), .bl (plB i), .bl b1, .bl b2, .bl b3])) p x_1 ∧
        Paired (EqV K (upd G10 p (.lst [.bl (plB i), .bl (plB i), .bl b1, .bl b2, .bl b3])) n) x x_1 ∧ rIsiX K [V.ref r, V.ty "RuntimeError"] (upd G10 p (.lst [.bl (plB i), .bl (plB i), .bl b1, .bl b2, .bl b3])) fun x H1 => ∃ c, x = V.bl c ∧ if c = true then Q (V.bl false) H1 else (∃ x, some (V.int (i : Nat)) = x) ∧ (∃ x, some (V.ref r) = x) ∧ (∃ x, u7 = x) ∧ (∃ x, some (V.ref l2) = x) ∧ (∃ x, some (V.bl (plB i)) = x) ∧ ExtH G2 H1 := by
      rintro p b1 b2 b3 hp rfl rfl rfl
      refine ⟨1, by decide, _, SqL.of ((ExtH.new hp) _ _ hl9), _, SqL.of upd_same, eqv_bits (xs := [plB i, plB i, abB i, abB i, ovB i]) rfl, ?_⟩
      exact isk_run (KB.r i hi26) (.ty _) (one.exc.mono (x9.trans (ExtH.new hp))) ⟨false, rfl, by rw [if_neg Bool.false_ne_true]; exact ⟨⟨_, rfl⟩, ⟨_, rfl⟩, ⟨_, rfl⟩, ⟨_, rfl⟩, ⟨_, rfl⟩, x9.trans (ExtH.new hp)⟩⟩
    have five : 5 ≤ sizeLine := hz _ (by decide)
    split <;> split <;> (try split) <;> refine ⟨five, fun p hp => ?_⟩ <;> refine fin p _ _ _ hp ?_ ?_ ?_ <;> rw [Bool.eq_iff_iff] <;> simp only [abB, ovB, Bool.and_eq_true, decide_eq_true_eq, Bool.false_eq_true, false_iff] <;> omega
end

end YY

set_option maxRecDepth 100000
set_option maxHeartbeats 4000000
namespace YY
open PySem PySem.Spec PyProof.Rows L2 XX
local macro_rules | `(tactic| walk_at "wp") => `(tactic| simp only [Int.zero_add, L2.start, LcEnd, List.append_nil, List.cons.injEq, List.cons_append, List.getElem?_cons_succ, List.getElem?_cons_zero, List.length_cons, List.length_nil, List.map_cons, List.map_nil, List.nil_append, List.replicate, List.replicate_succ, List.replicate_zero, List.set_cons_succ, List.set_cons_zero, Nat.reduceAdd, Nat.reduceSub, Option.some.injEq, StX.tMakeR, StX.tStar, V.bl.injEq, V.int.injEq, V.ref.injEq, V.str.injEq, V.ty.injEq, WE, and_assoc, and_false, and_true, bool_ite_false, bool_ite_true, cxOf_K, cxOf_noxK, dec_ite, decide_eq_true_eq, exists_and_left, exists_and_right, exists_const, exists_eq_left, exists_eq_left', false_and, false_or, gCons, gName, gNil, gSub, gTup, iEnumA, iItems, iKeys, iList, iRng1, iRng2, iStr, iTup, iZipB, ite_false, ite_true, ndec_ite, or_false, rAppend, rCat, rCatT, rEq, rEqI, rEqK, rEqV, rExt2, rI, rI0, rIn, rInRg, rIndex, rIsD, rIsE, rIsE2, rIxD, rIxL, rIxS, rIxT, rLenI, rLenK, rListStr, rMax, rMaxDef, rSetIM, rEqT, sFldAug, rAdd, rMin, rMulS, rNe, rNeDA, rNeV, rRange1, rRep, rRepA, rReprE, rReprI, rSetD, rSetI, rSetL, rSlL, rSlT, rSortedSet, rU, reduceCtorEq, reduceIte, sFld, tAnd, tAndV, tAsg, tAug, tB, tBM, tBM0, tC, tCB, tCKw, tDGetT, tCall, tCallS, tChain, tCons, tDGet, tDIn, tDNewK, tDNotIn, tDcT_eq, tDc_eq, tDisp, tDrop, tErr, tFld, tFor_eq, tIf, tIfS, tIxI, tLc2_eq, tLc_eq, tLenSetS, tLock, tLockE, tLst, tLstRg, tM1, tMakeRS, tMakeS, tMakeV, tMakeVS, tMeth, tMethX, tMkO, tMulA, tMulD, tNext, tNil, tNoPart, tNot, tNotV, tOp, tOpI, tOpR, tOr, tOrV, tOst, tPairs, tPar, tPar3, tPart, tRet, tRetN, tRevT, tRg2, tSMeth, tSeq, tSl, tTest, tTup, tUn, tVar, tVeI, tXf, tYes, true_and, wAs, wMA, wipe])
section
variable {P : Program} {w : World} {K : PySem.W.Frag} {mg : Str → Option Value} {base : Heap}
/-! ### the end: what the top has written -/
theorem xcls_mk {C : Addr} {nm q : Str} {N : Addr} {bs bm t bmB : List Value} {sn : List Str} {sub : List Value} {ab : Bool} {col : Option Bool} {dd : Option Addr} {m0 m1 m2 m3 m5 : Option Value} {B T newId initId : String} (fac : ExcBaseFacts B newId initId bmB) (tl : PySem.HandSPX.TailOk B T t)
    (xL : K.lookup C = some (excClassObj nm q C N bs bm true sn sub ab col dd m0 m1 m2 m3 m5 newId)) (bmr : PySem.HandSPX.refsT t bm = true)
    (sa : PySem.W.findIn K (.ref C) "__setattr__" = some (some (.builtin "object.__setattr__"))) (kC : PySem.W.keepIn K (.ref C) = true) (ga : PySem.W.findIn K (.ref C) "__getattribute__" = some (some (.builtin "BaseException.__getattribute__"))) (gg : PySem.W.findIn K (.ref C) "__getattr__" = some none)
    (exC : PySem.W.subIn K (.ref C) (.type "BaseException") = some true) (hdC : PySem.W.hasDictIn K C = true) (ha : PySem.W.findIn K (.ref C) "__class__" = some (some (.builtin "object.__class__")))
    (hn : PySem.W.specialIn K (.builtin "object.__class__") "__get__" = some (some (.builtin "getset_descriptor.__get__"))) (htk : PySem.W.takesIn K (.builtin "object.__class__") = some true) (hm : PySem.W.mroIn K C (.type "object") = some true) : XCls K B T newId C :=
  ⟨⟨nm, q, N, bs, bm, sn, sub, ab, col, dd, m0, m1, m2, m3, m5, xL, PySem.HandSPX.bm_of tl bmr⟩, ⟨initId, bmB, fac⟩, sa, kC, ga, gg, exC, hdC, ha, hn, htk, hm⟩
/-- of a class of the list -/
structure OneK (K : PySem.W.Frag) (mg : Str → Option Value) (x : Str) (C : Addr) (B T newId : String) (fI : Addr) : Prop where
  g : mg x = some (.ref C)
  xc : XCls K B T newId C
  no : PySem.W.findIn K (.ref C) "value" = some none
  ini : PySem.W.findIn K (.ref C) "__init__" = some (some (.ref fI))
  tI : PySem.W.typeIn K (.ref fI) = some (.type "function")
theorem one_mk {h : Heap} {x : Str} {C fI : Addr} {nm q : Str} {N : Addr} {bs bm t bmB : List Value} {sn : List Str} {sub : List Value} {ab : Bool} {col : Option Bool} {dd : Option Addr} {m0 m1 m2 m3 m5 : Option Value} {B T newId initId : String} (X : K.In h) (G : h.Ns mainGlobals mg)
    (fac : ExcBaseFacts B newId initId bmB) (tl : PySem.HandSPX.TailOk B T t) (hn : PySem.W.specialIn K (.builtin "object.__class__") "__get__" = some (some (.builtin "getset_descriptor.__get__"))) (htk : PySem.W.takesIn K (.builtin "object.__class__") = some true)
    (aC : PySem.W.nsIn K mainGlobals x = some (some (.ref C)))
    (xL : K.lookup C = some (excClassObj nm q C N bs bm true sn sub ab col dd m0 m1 m2 m3 m5 newId)) (bmr : PySem.HandSPX.refsT t bm = true)
    (sa : PySem.W.findIn K (.ref C) "__setattr__" = some (some (.builtin "object.__setattr__"))) (kC : PySem.W.keepIn K (.ref C) = true) (ga : PySem.W.findIn K (.ref C) "__getattribute__" = some (some (.builtin "BaseException.__getattribute__"))) (gg : PySem.W.findIn K (.ref C) "__getattr__" = some none)
    (exC : PySem.W.subIn K (.ref C) (.type "BaseException") = some true) (hdC : PySem.W.hasDictIn K C = true) (ha : PySem.W.findIn K (.ref C) "__class__" = some (some (.builtin "object.__class__")))
    (hm : PySem.W.mroIn K C (.type "object") = some true) (no : PySem.W.findIn K (.ref C) "value" = some none) (ini : PySem.W.findIn K (.ref C) "__init__" = some (some (.ref fI))) (tI : PySem.W.typeIn K (.ref fI) = some (.type "function")) : OneK K mg x C B T newId fI :=
  ⟨PySem.W.mg_of X G aC, xcls_mk fac tl xL bmr sa kC ga gg exC hdC ha hn htk hm, no, ini, tI⟩
theorem init_kb {x qual : Str} {st : Stmt} {f : Addr} {fd : FuncData} (F : L2.Fun K x qual st f fd)
    (hb : ∀ (kV doc pm : Value) (an : Option Addr) (cdv ct : Value) (u v : Value), bindArgs (PySem.W.fnOf x qual (defArgs st) (defBody st) (defScope st) .none kV doc pm an cdv ct) ⟨[u], [("value", v)]⟩ = pure ([("self", u), ("value", v)] : List (Str × Value))) :
    KBn K fd ["self", "value"] 1 ["value"] (fun us ws => us ++ ws) (fun vs zs => vs ++ zs) := by
  obtain ⟨oc, od, kV, doc, pm, an, cdv, ct, osl, rfl, lk, hcd⟩ := F.ex
  exact ⟨fun s us ws hK h1 h2 => match us, ws, h1, h2 with
    | [u], [v], _, _ => .of_eq (hb kV doc pm an cdv ct u v), fun r1 r2 => r1.append r2⟩
def kitTab (K : PySem.W.Frag) (cs : List Addr) : Bool := (List.range 27).all fun i => (List.range 27).all fun j => PySem.W.kitOne K (.ref (cs.getD i 0)) (.ref (cs.getD j 0)) == some (decide (j = i))
theorem kitTab_ok {cs : List Addr} (h : kitTab K cs = true) : KitAll K cs := fun i j hi hj => by
  have h1 := List.all_eq_true.mp (List.all_eq_true.mp h i (List.mem_range.mpr hi)) j (List.mem_range.mpr hj)
  exact beq_iff_eq.mp h1
def kitCols (K : PySem.W.Frag) (cs : List Addr) (cL cA : Addr) : Bool := (List.range 26).all fun i => PySem.W.kitOne K (.ref (cs.getD i 0)) (.ref cL) == some (plB i) && (PySem.W.kitOne K (.ref (cs.getD i 0)) (.type "ValueError") == some (plB i) && (PySem.W.kitOne K (.ref (cs.getD i 0)) (.ref cA) == some (abB i) &&
  (PySem.W.kitOne K (.ref (cs.getD i 0)) (.type "KeyError") == some (abB i) && (PySem.W.kitOne K (.ref (cs.getD i 0)) (.type "OverflowError") == some (ovB i) && PySem.W.kitOne K (.ref (cs.getD i 0)) (.type "RuntimeError") == some false))))
theorem kitCols_ok {cs : List Addr} {cL cA : Addr} (h : kitCols K cs cL cA = true) (h26 : PySem.W.kitOne K (.ref (cs.getD 26 0)) (.type "RuntimeError") = some true) : KitB K cs cL cA := by
  have z : ∀ i, i < 26 → PySem.W.kitOne K (.ref (cs.getD i 0)) (.ref cL) = some (plB i) ∧ PySem.W.kitOne K (.ref (cs.getD i 0)) (.type "ValueError") = some (plB i) ∧ PySem.W.kitOne K (.ref (cs.getD i 0)) (.ref cA) = some (abB i) ∧
      PySem.W.kitOne K (.ref (cs.getD i 0)) (.type "KeyError") = some (abB i) ∧ PySem.W.kitOne K (.ref (cs.getD i 0)) (.type "OverflowError") = some (ovB i) ∧ PySem.W.kitOne K (.ref (cs.getD i 0)) (.type "RuntimeError") = some false := fun i hi => by
    have h1 := List.all_eq_true.mp h i (List.mem_range.mpr hi)
    simp only [Bool.and_eq_true, beq_iff_eq] at h1
    exact h1
  exact ⟨fun i hi => (z i hi).1, fun i hi => (z i hi).2.1, fun i hi => (z i hi).2.2.1, fun i hi => (z i hi).2.2.2.1, fun i hi => (z i hi).2.2.2.2.1, fun i hi => (z i hi).2.2.2.2.2, h26⟩
structure Defs (K : PySem.W.Frag) (mg : Str → Option Value) : Prop where
  d1 : Def K mg "_law_numbers" sNumbers ["cell", "salt", "sizes"]
  d2 : Def K mg "_law_made" sMade ["thing"]
  d3 : Def K mg "_law_marks" sMarks ["e"]
/-- the four __init__ -/
structure Inits (K : PySem.W.Frag) (f0 f1 f2 f3 : Addr) : Prop where
  i0 : ∃ fd, L2.Fun K "__init__" "LanesError.__init__" sInit0 f0 fd
  i1 : ∃ fd, L2.Fun K "__init__" "Absent.__init__" sInit1 f1 fd
  i2 : ∃ fd, L2.Fun K "__init__" "TooLarge.__init__" sInit2 f2 fd
  i3 : ∃ fd, L2.Fun K "__init__" "TooMany.__init__" sInit3 f3 fd
theorem init_mk0 {f : Addr} {oc : Value} {od an : Option Addr} {osl : Array (Option Value)} {kV dc pm cd ct : Value}
    (l : K.lookup f = some ⟨oc, od, .func (PySem.W.fnOf "__init__" "LanesError.__init__" (defArgs sInit0) (defBody sInit0) (defScope sInit0) .none kV dc pm an cd ct), osl⟩) (c : PySem.W.codeIn K cd "LanesError.__init__" = true) (kp : PySem.W.keepIn K (.ref f) = true) :
    ∃ fd, L2.Fun K "__init__" "LanesError.__init__" sInit0 f fd := ⟨_, fun_mk (st := sInit0) l c kp⟩
theorem init_mk1 {f : Addr} {oc : Value} {od an : Option Addr} {osl : Array (Option Value)} {kV dc pm cd ct : Value}
    (l : K.lookup f = some ⟨oc, od, .func (PySem.W.fnOf "__init__" "Absent.__init__" (defArgs sInit1) (defBody sInit1) (defScope sInit1) .none kV dc pm an cd ct), osl⟩) (c : PySem.W.codeIn K cd "Absent.__init__" = true) (kp : PySem.W.keepIn K (.ref f) = true) :
    ∃ fd, L2.Fun K "__init__" "Absent.__init__" sInit1 f fd := ⟨_, fun_mk (st := sInit1) l c kp⟩
theorem init_mk2 {f : Addr} {oc : Value} {od an : Option Addr} {osl : Array (Option Value)} {kV dc pm cd ct : Value}
    (l : K.lookup f = some ⟨oc, od, .func (PySem.W.fnOf "__init__" "TooLarge.__init__" (defArgs sInit2) (defBody sInit2) (defScope sInit2) .none kV dc pm an cd ct), osl⟩) (c : PySem.W.codeIn K cd "TooLarge.__init__" = true) (kp : PySem.W.keepIn K (.ref f) = true) :
    ∃ fd, L2.Fun K "__init__" "TooLarge.__init__" sInit2 f fd := ⟨_, fun_mk (st := sInit2) l c kp⟩
theorem init_mk3 {f : Addr} {oc : Value} {od an : Option Addr} {osl : Array (Option Value)} {kV dc pm cd ct : Value}
    (l : K.lookup f = some ⟨oc, od, .func (PySem.W.fnOf "__init__" "TooMany.__init__" (defArgs sInit3) (defBody sInit3) (defScope sInit3) .none kV dc pm an cd ct), osl⟩) (c : PySem.W.codeIn K cd "TooMany.__init__" = true) (kp : PySem.W.keepIn K (.ref f) = true) :
    ∃ fd, L2.Fun K "__init__" "TooMany.__init__" sInit3 f fd := ⟨_, fun_mk (st := sInit3) l c kp⟩
structure Ones (K : PySem.W.Frag) (mg : Str → Option Value) (c0 c1 c2 c3 c4 c5 c6 c7 c8 c9 c10 c11 c12 c13 c14 c15 c16 c17 c18 c19 c20 c21 c22 c23 c24 c25 f0 f1 f2 f3 : Addr) : Prop where
  o0 : OneK K mg "BadRegisters" c0 "ValueError" "ValueError" "ValueError.__new__" f0
  o1 : OneK K mg "BadNumber" c1 "ValueError" "ValueError" "ValueError.__new__" f0
  o2 : OneK K mg "BadRow" c2 "ValueError" "ValueError" "ValueError.__new__" f0
  o3 : OneK K mg "BadRows" c3 "ValueError" "ValueError" "ValueError.__new__" f0
  o4 : OneK K mg "BadJoins" c4 "ValueError" "ValueError" "ValueError.__new__" f0
  o5 : OneK K mg "BadProgram" c5 "ValueError" "ValueError" "ValueError.__new__" f0
  o6 : OneK K mg "BadRule" c6 "ValueError" "ValueError" "ValueError.__new__" f0
  o7 : OneK K mg "BadData" c7 "ValueError" "ValueError" "ValueError.__new__" f0
  o8 : OneK K mg "BadText" c8 "ValueError" "ValueError" "ValueError.__new__" f0
  o9 : OneK K mg "BadKind" c9 "ValueError" "ValueError" "ValueError.__new__" f0
  o10 : OneK K mg "BadMachine" c10 "ValueError" "ValueError" "ValueError.__new__" f0
  o11 : OneK K mg "NotNested" c11 "ValueError" "ValueError" "ValueError.__new__" f0
  o12 : OneK K mg "NotPlain" c12 "ValueError" "ValueError" "ValueError.__new__" f0
  o13 : OneK K mg "BadBlock" c13 "ValueError" "ValueError" "ValueError.__new__" f0
  o14 : OneK K mg "BadState" c14 "ValueError" "ValueError" "ValueError.__new__" f0
  o15 : OneK K mg "BadPromise" c15 "ValueError" "ValueError" "ValueError.__new__" f0
  o16 : OneK K mg "BadPaper" c16 "ValueError" "ValueError" "ValueError.__new__" f0
  o17 : OneK K mg "BadLine" c17 "ValueError" "ValueError" "ValueError.__new__" f0
  o18 : OneK K mg "NoLane" c18 "LookupError" "KeyError" "LookupError.__new__" f1
  o19 : OneK K mg "NoScene" c19 "LookupError" "KeyError" "LookupError.__new__" f1
  o20 : OneK K mg "TooLarge" c20 "OverflowError" "OverflowError" "OverflowError.__new__" f2
  o21 : OneK K mg "TooMany" c21 "OverflowError" "OverflowError" "OverflowError.__new__" f3
  o22 : OneK K mg "Guarded" c22 "ValueError" "ValueError" "ValueError.__new__" f0
  o23 : OneK K mg "Unlike" c23 "ValueError" "ValueError" "ValueError.__new__" f0
  o24 : OneK K mg "BadEdits" c24 "ValueError" "ValueError" "ValueError.__new__" f0
  o25 : OneK K mg "BadKeeper" c25 "ValueError" "ValueError" "ValueError.__new__" f0
/-- what the top has written -/
structure Facts (K : PySem.W.Frag) (mg : Str → Option Value) : Prop where
  ex : ∃ (c0 c1 c2 c3 c4 c5 c6 c7 c8 c9 c10 c11 c12 c13 c14 c15 c16 c17 c18 c19 c20 c21 c22 c23 c24 c25 c26 f0 f1 f2 f3 cL cA : Addr), Ones K mg c0 c1 c2 c3 c4 c5 c6 c7 c8 c9 c10 c11 c12 c13 c14 c15 c16 c17 c18 c19 c20 c21 c22 c23 c24 c25 f0 f1 f2 f3 ∧ Inits K f0 f1 f2 f3 ∧ KitAll K [c0, c1, c2, c3, c4, c5, c6, c7, c8, c9, c10, c11, c12, c13, c14, c15, c16, c17, c18, c19, c20, c21, c22, c23, c24, c25, c26] ∧ KitB K [c0, c1, c2, c3, c4, c5, c6, c7, c8, c9, c10, c11, c12, c13, c14, c15, c16, c17, c18, c19, c20, c21, c22, c23, c24, c25, c26] cL cA ∧ mg "LanesError" = some (.ref cL) ∧ mg "Absent" = some (.ref cA) ∧ mg "NothingToUndo" = some (.ref c26) ∧
    PySem.W.excIn K c26 [.type "RuntimeError", .type "Exception", .type "BaseException", .type "object"] "RuntimeError.__new__" = true ∧ XCls K "RuntimeError" "RuntimeError" "RuntimeError.__new__" c26
theorem facts_mk {h : Heap} {c0 c1 c2 c3 c4 c5 c6 c7 c8 c9 c10 c11 c12 c13 c14 c15 c16 c17 c18 c19 c20 c21 c22 c23 c24 c25 c26 f0 f1 f2 f3 cL cA : Addr} {nm q : Str} {N : Addr} {bs bm : List Value} {sn : List Str} {sub : List Value} {ab : Bool} {col : Option Bool} {dd : Option Addr} {m0 m1 m2 m3 m5 : Option Value} (X : K.In h) (G : h.Ns mainGlobals mg) (O : Ones K mg c0 c1 c2 c3 c4 c5 c6 c7 c8 c9 c10 c11 c12 c13 c14 c15 c16 c17 c18 c19 c20 c21 c22 c23 c24 c25 f0 f1 f2 f3) (I : Inits K f0 f1 f2 f3)
    (aL : PySem.W.nsIn K mainGlobals "LanesError" = some (some (.ref cL))) (aA : PySem.W.nsIn K mainGlobals "Absent" = some (some (.ref cA))) (aU : PySem.W.nsIn K mainGlobals "NothingToUndo" = some (some (.ref c26)))
    (xL : K.lookup c26 = some (excClassObj nm q c26 N bs bm true sn sub ab col dd m0 m1 m2 m3 m5 "RuntimeError.__new__")) (bmr : PySem.HandSPX.refsT PySem.HandSPX.reTail bm = true)
    (sa : PySem.W.findIn K (.ref c26) "__setattr__" = some (some (.builtin "object.__setattr__"))) (kC : PySem.W.keepIn K (.ref c26) = true) (ga : PySem.W.findIn K (.ref c26) "__getattribute__" = some (some (.builtin "BaseException.__getattribute__"))) (gg : PySem.W.findIn K (.ref c26) "__getattr__" = some none)
    (exC : PySem.W.subIn K (.ref c26) (.type "BaseException") = some true) (hdC : PySem.W.hasDictIn K c26 = true) (ha : PySem.W.findIn K (.ref c26) "__class__" = some (some (.builtin "object.__class__")))
    (hn : PySem.W.specialIn K (.builtin "object.__class__") "__get__" = some (some (.builtin "getset_descriptor.__get__"))) (htk : PySem.W.takesIn K (.builtin "object.__class__") = some true) (hm : PySem.W.mroIn K c26 (.type "object") = some true)
    (e26 : PySem.W.excIn K c26 [.type "RuntimeError", .type "Exception", .type "BaseException", .type "object"] "RuntimeError.__new__" = true)
    (kt : kitTab K [c0, c1, c2, c3, c4, c5, c6, c7, c8, c9, c10, c11, c12, c13, c14, c15, c16, c17, c18, c19, c20, c21, c22, c23, c24, c25, c26] = true) (kc : kitCols K [c0, c1, c2, c3, c4, c5, c6, c7, c8, c9, c10, c11, c12, c13, c14, c15, c16, c17, c18, c19, c20, c21, c22, c23, c24, c25, c26] cL cA = true) (k26 : PySem.W.kitOne K (.ref c26) (.type "RuntimeError") = some true) : Facts K mg :=
  ⟨c0, c1, c2, c3, c4, c5, c6, c7, c8, c9, c10, c11, c12, c13, c14, c15, c16, c17, c18, c19, c20, c21, c22, c23, c24, c25, c26, f0, f1, f2, f3, cL, cA, O, I, kitTab_ok kt, kitCols_ok kc k26, PySem.W.mg_of X G aL, PySem.W.mg_of X G aA, PySem.W.mg_of X G aU, e26, xcls_mk PySem.F.excBase_RuntimeError PySem.HandSPX.tail_re xL bmr sa kC ga gg exC hdC ha hn htk hm⟩
theorem all_ok {f : Addr} {fd : FuncData} (D : Defs K mg) (B : Bl1 mg) (gM : Msg mg) (Y : Facts K mg) (vV : PySem.W.findCls K (.type "ValueError") (.type "type") "__init__" = some (.val (.builtin "ValueError.__init__"))) (vK : PySem.W.findCls K (.type "KeyError") (.type "type") "__init__" = some (.val (.builtin "KeyError.__init__")))
    (vO : PySem.W.findCls K (.type "OverflowError") (.type "type") "__init__" = some (.val (.builtin "OverflowError.__init__"))) (F : L2.Fun K "law" "law" sLaw f fd) : FnG P w K mg base CX0 4 f fd ["script"] (spLaw K) := by
  obtain ⟨c0, c1, c2, c3, c4, c5, c6, c7, c8, c9, c10, c11, c12, c13, c14, c15, c16, c17, c18, c19, c20, c21, c22, c23, c24, c25, c26, f0, f1, f2, f3, cL, cA, O, I, KA, KB, gL, gA, gU, e26, X26⟩ := Y
  obtain ⟨fd0, F0⟩ := I.i0
  obtain ⟨fd1, F1⟩ := I.i1
  obtain ⟨fd2, F2⟩ := I.i2
  obtain ⟨fd3, F3⟩ := I.i3
  have e0 := c_init0 (P := P) (w := w) (base := base) F0 B.nV gM vV
  have b0 : Binds K fd0 ["self", "value"] [] := F0.binds (ps := ["self", "value"]) fun _ _ _ _ _ _ us hl => match us, hl with | [_, _], _ => rfl
  have kb0 := init_kb F0 (fun _ _ _ _ _ _ _ _ => rfl)
  have e1 := c_init1 (P := P) (w := w) (base := base) F1 B.nK gM vK
  have b1 : Binds K fd1 ["self", "value"] [] := F1.binds (ps := ["self", "value"]) fun _ _ _ _ _ _ us hl => match us, hl with | [_, _], _ => rfl
  have kb1 := init_kb F1 (fun _ _ _ _ _ _ _ _ => rfl)
  have e2 := c_init2 (P := P) (w := w) (base := base) F2 B.nO gM vO
  have b2 : Binds K fd2 ["self", "value"] [] := F2.binds (ps := ["self", "value"]) fun _ _ _ _ _ _ us hl => match us, hl with | [_, _], _ => rfl
  have kb2 := init_kb F2 (fun _ _ _ _ _ _ _ _ => rfl)
  have e3 := c_init3 (P := P) (w := w) (base := base) F3 B.nO gM vO
  have b3 : Binds K fd3 ["self", "value"] [] := F3.binds (ps := ["self", "value"]) fun _ _ _ _ _ _ us hl => match us, hl with | [_, _], _ => rfl
  have kb3 := init_kb F3 (fun _ _ _ _ _ _ _ _ => rfl)
  have OC : ∀ i, i < 26 → OneC P w K mg base (xNames.getD i "") (([c0, c1, c2, c3, c4, c5, c6, c7, c8, c9, c10, c11, c12, c13, c14, c15, c16, c17, c18, c19, c20, c21, c22, c23, c24, c25, c26] : List Addr).getD i 0) := fun i hi => match i, hi with
    | 0, _ => ⟨⟨_, _, _, f0, fd0, O.o0.xc, O.o0.no, O.o0.ini, O.o0.tI, e0, b0, kb0⟩, O.o0.g⟩
    | 1, _ => ⟨⟨_, _, _, f0, fd0, O.o1.xc, O.o1.no, O.o1.ini, O.o1.tI, e0, b0, kb0⟩, O.o1.g⟩
    | 2, _ => ⟨⟨_, _, _, f0, fd0, O.o2.xc, O.o2.no, O.o2.ini, O.o2.tI, e0, b0, kb0⟩, O.o2.g⟩
    | 3, _ => ⟨⟨_, _, _, f0, fd0, O.o3.xc, O.o3.no, O.o3.ini, O.o3.tI, e0, b0, kb0⟩, O.o3.g⟩
    | 4, _ => ⟨⟨_, _, _, f0, fd0, O.o4.xc, O.o4.no, O.o4.ini, O.o4.tI, e0, b0, kb0⟩, O.o4.g⟩
    | 5, _ => ⟨⟨_, _, _, f0, fd0, O.o5.xc, O.o5.no, O.o5.ini, O.o5.tI, e0, b0, kb0⟩, O.o5.g⟩
    | 6, _ => ⟨⟨_, _, _, f0, fd0, O.o6.xc, O.o6.no, O.o6.ini, O.o6.tI, e0, b0, kb0⟩, O.o6.g⟩
    | 7, _ => ⟨⟨_, _, _, f0, fd0, O.o7.xc, O.o7.no, O.o7.ini, O.o7.tI, e0, b0, kb0⟩, O.o7.g⟩
    | 8, _ => ⟨⟨_, _, _, f0, fd0, O.o8.xc, O.o8.no, O.o8.ini, O.o8.tI, e0, b0, kb0⟩, O.o8.g⟩
    | 9, _ => ⟨⟨_, _, _, f0, fd0, O.o9.xc, O.o9.no, O.o9.ini, O.o9.tI, e0, b0, kb0⟩, O.o9.g⟩
    | 10, _ => ⟨⟨_, _, _, f0, fd0, O.o10.xc, O.o10.no, O.o10.ini, O.o10.tI, e0, b0, kb0⟩, O.o10.g⟩
    | 11, _ => ⟨⟨_, _, _, f0, fd0, O.o11.xc, O.o11.no, O.o11.ini, O.o11.tI, e0, b0, kb0⟩, O.o11.g⟩
    | 12, _ => ⟨⟨_, _, _, f0, fd0, O.o12.xc, O.o12.no, O.o12.ini, O.o12.tI, e0, b0, kb0⟩, O.o12.g⟩
    | 13, _ => ⟨⟨_, _, _, f0, fd0, O.o13.xc, O.o13.no, O.o13.ini, O.o13.tI, e0, b0, kb0⟩, O.o13.g⟩
    | 14, _ => ⟨⟨_, _, _, f0, fd0, O.o14.xc, O.o14.no, O.o14.ini, O.o14.tI, e0, b0, kb0⟩, O.o14.g⟩
    | 15, _ => ⟨⟨_, _, _, f0, fd0, O.o15.xc, O.o15.no, O.o15.ini, O.o15.tI, e0, b0, kb0⟩, O.o15.g⟩
    | 16, _ => ⟨⟨_, _, _, f0, fd0, O.o16.xc, O.o16.no, O.o16.ini, O.o16.tI, e0, b0, kb0⟩, O.o16.g⟩
    | 17, _ => ⟨⟨_, _, _, f0, fd0, O.o17.xc, O.o17.no, O.o17.ini, O.o17.tI, e0, b0, kb0⟩, O.o17.g⟩
    | 18, _ => ⟨⟨_, _, _, f1, fd1, O.o18.xc, O.o18.no, O.o18.ini, O.o18.tI, e1, b1, kb1⟩, O.o18.g⟩
    | 19, _ => ⟨⟨_, _, _, f1, fd1, O.o19.xc, O.o19.no, O.o19.ini, O.o19.tI, e1, b1, kb1⟩, O.o19.g⟩
    | 20, _ => ⟨⟨_, _, _, f2, fd2, O.o20.xc, O.o20.no, O.o20.ini, O.o20.tI, e2, b2, kb2⟩, O.o20.g⟩
    | 21, _ => ⟨⟨_, _, _, f3, fd3, O.o21.xc, O.o21.no, O.o21.ini, O.o21.tI, e3, b3, kb3⟩, O.o21.g⟩
    | 22, _ => ⟨⟨_, _, _, f0, fd0, O.o22.xc, O.o22.no, O.o22.ini, O.o22.tI, e0, b0, kb0⟩, O.o22.g⟩
    | 23, _ => ⟨⟨_, _, _, f0, fd0, O.o23.xc, O.o23.no, O.o23.ini, O.o23.tI, e0, b0, kb0⟩, O.o23.g⟩
    | 24, _ => ⟨⟨_, _, _, f0, fd0, O.o24.xc, O.o24.no, O.o24.ini, O.o24.tI, e0, b0, kb0⟩, O.o24.g⟩
    | 25, _ => ⟨⟨_, _, _, f0, fd0, O.o25.xc, O.o25.no, O.o25.ini, O.o25.tI, e0, b0, kb0⟩, O.o25.g⟩
    | n + 26, h => absurd h (by omega)
  have c1 := c_numbers (P := P) (w := w) (base := base) D.d1 B.T
  have c2 := c_made D.d2 rfl OC
  have c3 := c_marks (P := P) (w := w) (base := base) D.d3 B.nI (fun i x hx => ?_) KA
  · exact c_law F B KB gL gA rfl gU e26 PySem.F.excBase_RuntimeError X26 c1 c2 c3
  · match i, hx with
    | 0, hx => cases hx; exact O.o0.g
    | 1, hx => cases hx; exact O.o1.g
    | 2, hx => cases hx; exact O.o2.g
    | 3, hx => cases hx; exact O.o3.g
    | 4, hx => cases hx; exact O.o4.g
    | 5, hx => cases hx; exact O.o5.g
    | 6, hx => cases hx; exact O.o6.g
    | 7, hx => cases hx; exact O.o7.g
    | 8, hx => cases hx; exact O.o8.g
    | 9, hx => cases hx; exact O.o9.g
    | 10, hx => cases hx; exact O.o10.g
    | 11, hx => cases hx; exact O.o11.g
    | 12, hx => cases hx; exact O.o12.g
    | 13, hx => cases hx; exact O.o13.g
    | 14, hx => cases hx; exact O.o14.g
    | 15, hx => cases hx; exact O.o15.g
    | 16, hx => cases hx; exact O.o16.g
    | 17, hx => cases hx; exact O.o17.g
    | 18, hx => cases hx; exact O.o18.g
    | 19, hx => cases hx; exact O.o19.g
    | 20, hx => cases hx; exact O.o20.g
    | 21, hx => cases hx; exact O.o21.g
    | 22, hx => cases hx; exact O.o22.g
    | 23, hx => cases hx; exact O.o23.g
    | 24, hx => cases hx; exact O.o24.g
    | 25, hx => cases hx; exact O.o25.g
    | 26, hx => cases hx; exact gU
    | n + 27, hx => cases hx
theorem walk {l : PySem.W.OpenLaw} {q : Program} {loose : List Str} {XP : (Str → Option Value) → Heap → Prop} {YP : World → Heap → Prop} {d : DefRec} {K : Params → PySem.W.Frag} (hn : l.most = some 63) (hdf : d.params.defaults = []) (hY : ∀ (w : World) (h : Heap), YP w h → (K w.params).In h)
    (F : ∀ (w : World) (mg : Str → Option Value) (fa : Addr) (h : Heap), (K w.params).In h → h.Ns mainGlobals mg → mg d.name = some (.ref fa) →
      ∃ fd : FuncData, (∀ (s : Shared) (u : Value), BindsTo s fd ⟨[u], []⟩ [("script", u)]) ∧ ∀ base : Heap, (K w.params).In base → base.Ns mainGlobals mg → FnG l.prog w (K w.params) mg base CX0 4 fa fd ["script"] (spLaw (K w.params))) :
    PySem.W.WalkO q loose XP YP l.row.toRowW d [] (fun f vs => PySem.call f vs) :=
  walk_ofG (n := 63) (k := 4) (x := "script") (CX := fun _ => CX0) (sp := spLaw) hn (by decide) hdf ⟨rfl, by decide, by decide⟩ hY F (fun _ _ a ns hl _ hS => ⟨a, ns, rfl, hl, hS, fun _ => rfl⟩) fun _ _ _ _ _ z => z
theorem fin {h : Heap} {fa : Addr} (KX : K.In h) (G : h.Ns mainGlobals mg) (hmg : mg "law" = some (.ref fa)) (LW : ∃ f fd, L2.Fun K "law" "law" sLaw f fd ∧ mg "law" = some (.ref f) ∧ ∀ (s : Shared) (u : Value), BindsTo s fd ⟨[u], []⟩ [("script", u)]) (D : Defs K mg) (B : Bl1 mg) (gM : Msg mg)
    (vV : PySem.W.findCls K (.type "ValueError") (.type "type") "__init__" = some (.val (.builtin "ValueError.__init__"))) (vK : PySem.W.findCls K (.type "KeyError") (.type "type") "__init__" = some (.val (.builtin "KeyError.__init__")))
    (vO : PySem.W.findCls K (.type "OverflowError") (.type "type") "__init__" = some (.val (.builtin "OverflowError.__init__"))) (Y : Facts K mg) :
    ∃ fd : FuncData, (∀ (s : Shared) (u : Value), BindsTo s fd ⟨[u], []⟩ [("script", u)]) ∧ ∀ base : Heap, K.In base → base.Ns mainGlobals mg → FnG P w K mg base CX0 4 fa fd ["script"] (spLaw K) := by
  obtain ⟨f, fd, F, hf, hb⟩ := LW
  have e := hmg.symm.trans hf
  cases e
  exact ⟨fd, hb, fun base _ _ => all_ok D B gM Y vV vK vO F⟩
theorem law_mk {h : Heap} {f : Addr} {oc : Value} {od an : Option Addr} {osl : Array (Option Value)} {kV dc pm cd ct : Value} (X : K.In h) (G : h.Ns mainGlobals mg) (a : PySem.W.nsIn K mainGlobals "law" = some (some (.ref f)))
    (l : K.lookup f = some ⟨oc, od, .func (PySem.W.fnOf "law" "law" (defArgs sLaw) (defBody sLaw) (defScope sLaw) .none kV dc pm an cd ct), osl⟩) (c : PySem.W.codeIn K cd "law" = true) (kp : PySem.W.keepIn K (.ref f) = true) :
    ∃ f fd, L2.Fun K "law" "law" sLaw f fd ∧ mg "law" = some (.ref f) ∧ ∀ (s : Shared) (u : Value), BindsTo s fd ⟨[u], []⟩ [("script", u)] :=
  ⟨f, _, fun_mk (st := sLaw) l c kp, PySem.W.mg_of X G a, fun s v => .of_eq rfl⟩
theorem msg_mk {h : Heap} {k : Tok} (X : K.In h) (G : h.Ns mainGlobals mg) (a : PySem.W.nsIn K mainGlobals "_MESSAGE" = some (some (.str "the attribute value tells what this is about" k))) : Msg mg := ⟨k, PySem.W.mg_of X G a⟩
end

end YY

open PySem PySem.W PyProof.Rows
set_option maxRecDepth 100000 in
set_option maxHeartbeats 0 in
theorem PySem.Challenge.cw_partedlanes_k01_exceptions_holds : PySem.Challenge.rw_partedlanes_k01_exceptions.Holds := by
  w_on; o_law; k_head; (case hw => w_witness2)
  k_fill
  refine YY.walk (l := PySem.Challenge.rw_partedlanes_k01_exceptions) rfl rfl (fun w h Y => PySem.W.kIn_of Y) ?F
  case F =>
    intro w mg fa h KX G hmg
    refine' YY.fin KX G hmg ?LW ?D ?B ?gM ?vV ?vK ?vO ?Y
    case LW =>
      refine' YY.law_mk KX G ?a ?l ?c ?k
      (case a => k_is); (case l => k_is); (case c => k_is); (case k => k_is)
    case D =>
      constructor
      · refine' XX.def_mk (x := "_law_numbers") (st := YY.sNumbers) KX G ?a ?l ?c ?k (fun _ _ _ _ _ _ us hl => match us, hl with | [_, _, _], _ => rfl)
        (case a => k_is); (case l => k_is); (case c => k_is); (case k => k_is)
      · refine' XX.def_mk (x := "_law_made") (st := YY.sMade) KX G ?a ?l ?c ?k (fun _ _ _ _ _ _ us hl => match us, hl with | [_], _ => rfl)
        (case a => k_is); (case l => k_is); (case c => k_is); (case k => k_is)
      · refine' XX.def_mk (x := "_law_marks") (st := YY.sMarks) KX G ?a ?l ?c ?k (fun _ _ _ _ _ _ us hl => match us, hl with | [_], _ => rfl)
        (case a => k_is); (case l => k_is); (case c => k_is); (case k => k_is)
    case B =>
      refine ⟨⟨PySem.W.mg_none_of KX G ?_, PySem.W.mg_none_of KX G ?_, PySem.W.mg_none_of KX G ?_, PySem.W.mg_none_of KX G ?_⟩, PySem.W.mg_none_of KX G ?_, PySem.W.mg_none_of KX G ?_, PySem.W.mg_none_of KX G ?_, PySem.W.mg_none_of KX G ?_, PySem.W.mg_none_of KX G ?_, PySem.W.mg_none_of KX G ?_, PySem.W.mg_none_of KX G ?_⟩
      all_goals k_is
    case gM =>
      refine' YY.msg_mk KX G ?a
      (case a => k_is)
    case vV => k_is
    case vK => k_is
    case vO => k_is
    case Y =>
      refine' YY.facts_mk KX G ?O ?I ?aL ?aA ?aU ?xL ?bmr ?sa ?kC ?ga ?gg ?exC ?hdC ?ha ?hn ?htk ?hm ?e26 ?kt ?kc ?k26
      case O =>
        refine' YY.Ones.mk ?o0 ?o1 ?o2 ?o3 ?o4 ?o5 ?o6 ?o7 ?o8 ?o9 ?o10 ?o11 ?o12 ?o13 ?o14 ?o15 ?o16 ?o17 ?o18 ?o19 ?o20 ?o21 ?o22 ?o23 ?o24 ?o25
        case o0 =>
          refine' YY.one_mk KX G PySem.F.excBase_ValueError PySem.HandSPX.tail_ve ?hn0 ?htk0 ?aC0 ?xL0 ?bmr0 ?sa0 ?kC0 ?ga0 ?gg0 ?exC0 ?hdC0 ?ha0 ?hm0 ?no0 ?ini0 ?tI0
          (case aC0 => k_is); (case hn0 => k_is); (case htk0 => k_is); (case xL0 => k_is); (case bmr0 => decide +kernel); (case sa0 => k_is); (case kC0 => k_is); (case ga0 => k_is); (case gg0 => k_is); (case exC0 => k_is); (case hdC0 => k_is); (case ha0 => k_is); (case hm0 => k_is); (case no0 => k_is); (case ini0 => k_is); (case tI0 => k_is)
        case o1 =>
          refine' YY.one_mk KX G PySem.F.excBase_ValueError PySem.HandSPX.tail_ve ?hn1 ?htk1 ?aC1 ?xL1 ?bmr1 ?sa1 ?kC1 ?ga1 ?gg1 ?exC1 ?hdC1 ?ha1 ?hm1 ?no1 ?ini1 ?tI1
          (case aC1 => k_is); (case hn1 => k_is); (case htk1 => k_is); (case xL1 => k_is); (case bmr1 => decide +kernel); (case sa1 => k_is); (case kC1 => k_is); (case ga1 => k_is); (case gg1 => k_is); (case exC1 => k_is); (case hdC1 => k_is); (case ha1 => k_is); (case hm1 => k_is); (case no1 => k_is); (case ini1 => k_is); (case tI1 => k_is)
        case o2 =>
          refine' YY.one_mk KX G PySem.F.excBase_ValueError PySem.HandSPX.tail_ve ?hn2 ?htk2 ?aC2 ?xL2 ?bmr2 ?sa2 ?kC2 ?ga2 ?gg2 ?exC2 ?hdC2 ?ha2 ?hm2 ?no2 ?ini2 ?tI2
          (case aC2 => k_is); (case hn2 => k_is); (case htk2 => k_is); (case xL2 => k_is); (case bmr2 => decide +kernel); (case sa2 => k_is); (case kC2 => k_is); (case ga2 => k_is); (case gg2 => k_is); (case exC2 => k_is); (case hdC2 => k_is); (case ha2 => k_is); (case hm2 => k_is); (case no2 => k_is); (case ini2 => k_is); (case tI2 => k_is)
        case o3 =>
          refine' YY.one_mk KX G PySem.F.excBase_ValueError PySem.HandSPX.tail_ve ?hn3 ?htk3 ?aC3 ?xL3 ?bmr3 ?sa3 ?kC3 ?ga3 ?gg3 ?exC3 ?hdC3 ?ha3 ?hm3 ?no3 ?ini3 ?tI3
          (case aC3 => k_is); (case hn3 => k_is); (case htk3 => k_is); (case xL3 => k_is); (case bmr3 => decide +kernel); (case sa3 => k_is); (case kC3 => k_is); (case ga3 => k_is); (case gg3 => k_is); (case exC3 => k_is); (case hdC3 => k_is); (case ha3 => k_is); (case hm3 => k_is); (case no3 => k_is); (case ini3 => k_is); (case tI3 => k_is)
        case o4 =>
          refine' YY.one_mk KX G PySem.F.excBase_ValueError PySem.HandSPX.tail_ve ?hn4 ?htk4 ?aC4 ?xL4 ?bmr4 ?sa4 ?kC4 ?ga4 ?gg4 ?exC4 ?hdC4 ?ha4 ?hm4 ?no4 ?ini4 ?tI4
          (case aC4 => k_is); (case hn4 => k_is); (case htk4 => k_is); (case xL4 => k_is); (case bmr4 => decide +kernel); (case sa4 => k_is); (case kC4 => k_is); (case ga4 => k_is); (case gg4 => k_is); (case exC4 => k_is); (case hdC4 => k_is); (case ha4 => k_is); (case hm4 => k_is); (case no4 => k_is); (case ini4 => k_is); (case tI4 => k_is)
        case o5 =>
          refine' YY.one_mk KX G PySem.F.excBase_ValueError PySem.HandSPX.tail_ve ?hn5 ?htk5 ?aC5 ?xL5 ?bmr5 ?sa5 ?kC5 ?ga5 ?gg5 ?exC5 ?hdC5 ?ha5 ?hm5 ?no5 ?ini5 ?tI5
          (case aC5 => k_is); (case hn5 => k_is); (case htk5 => k_is); (case xL5 => k_is); (case bmr5 => decide +kernel); (case sa5 => k_is); (case kC5 => k_is); (case ga5 => k_is); (case gg5 => k_is); (case exC5 => k_is); (case hdC5 => k_is); (case ha5 => k_is); (case hm5 => k_is); (case no5 => k_is); (case ini5 => k_is); (case tI5 => k_is)
        case o6 =>
          refine' YY.one_mk KX G PySem.F.excBase_ValueError PySem.HandSPX.tail_ve ?hn6 ?htk6 ?aC6 ?xL6 ?bmr6 ?sa6 ?kC6 ?ga6 ?gg6 ?exC6 ?hdC6 ?ha6 ?hm6 ?no6 ?ini6 ?tI6
          (case aC6 => k_is); (case hn6 => k_is); (case htk6 => k_is); (case xL6 => k_is); (case bmr6 => decide +kernel); (case sa6 => k_is); (case kC6 => k_is); (case ga6 => k_is); (case gg6 => k_is); (case exC6 => k_is); (case hdC6 => k_is); (case ha6 => k_is); (case hm6 => k_is); (case no6 => k_is); (case ini6 => k_is); (case tI6 => k_is)
        case o7 =>
          refine' YY.one_mk KX G PySem.F.excBase_ValueError PySem.HandSPX.tail_ve ?hn7 ?htk7 ?aC7 ?xL7 ?bmr7 ?sa7 ?kC7 ?ga7 ?gg7 ?exC7 ?hdC7 ?ha7 ?hm7 ?no7 ?ini7 ?tI7
          (case aC7 => k_is); (case hn7 => k_is); (case htk7 => k_is); (case xL7 => k_is); (case bmr7 => decide +kernel); (case sa7 => k_is); (case kC7 => k_is); (case ga7 => k_is); (case gg7 => k_is); (case exC7 => k_is); (case hdC7 => k_is); (case ha7 => k_is); (case hm7 => k_is); (case no7 => k_is); (case ini7 => k_is); (case tI7 => k_is)
        case o8 =>
          refine' YY.one_mk KX G PySem.F.excBase_ValueError PySem.HandSPX.tail_ve ?hn8 ?htk8 ?aC8 ?xL8 ?bmr8 ?sa8 ?kC8 ?ga8 ?gg8 ?exC8 ?hdC8 ?ha8 ?hm8 ?no8 ?ini8 ?tI8
          (case aC8 => k_is); (case hn8 => k_is); (case htk8 => k_is); (case xL8 => k_is); (case bmr8 => decide +kernel); (case sa8 => k_is); (case kC8 => k_is); (case ga8 => k_is); (case gg8 => k_is); (case exC8 => k_is); (case hdC8 => k_is); (case ha8 => k_is); (case hm8 => k_is); (case no8 => k_is); (case ini8 => k_is); (case tI8 => k_is)
        case o9 =>
          refine' YY.one_mk KX G PySem.F.excBase_ValueError PySem.HandSPX.tail_ve ?hn9 ?htk9 ?aC9 ?xL9 ?bmr9 ?sa9 ?kC9 ?ga9 ?gg9 ?exC9 ?hdC9 ?ha9 ?hm9 ?no9 ?ini9 ?tI9
          (case aC9 => k_is); (case hn9 => k_is); (case htk9 => k_is); (case xL9 => k_is); (case bmr9 => decide +kernel); (case sa9 => k_is); (case kC9 => k_is); (case ga9 => k_is); (case gg9 => k_is); (case exC9 => k_is); (case hdC9 => k_is); (case ha9 => k_is); (case hm9 => k_is); (case no9 => k_is); (case ini9 => k_is); (case tI9 => k_is)
        case o10 =>
          refine' YY.one_mk KX G PySem.F.excBase_ValueError PySem.HandSPX.tail_ve ?hn10 ?htk10 ?aC10 ?xL10 ?bmr10 ?sa10 ?kC10 ?ga10 ?gg10 ?exC10 ?hdC10 ?ha10 ?hm10 ?no10 ?ini10 ?tI10
          (case aC10 => k_is); (case hn10 => k_is); (case htk10 => k_is); (case xL10 => k_is); (case bmr10 => decide +kernel); (case sa10 => k_is); (case kC10 => k_is); (case ga10 => k_is); (case gg10 => k_is); (case exC10 => k_is); (case hdC10 => k_is); (case ha10 => k_is); (case hm10 => k_is); (case no10 => k_is); (case ini10 => k_is); (case tI10 => k_is)
        case o11 =>
          refine' YY.one_mk KX G PySem.F.excBase_ValueError PySem.HandSPX.tail_ve ?hn11 ?htk11 ?aC11 ?xL11 ?bmr11 ?sa11 ?kC11 ?ga11 ?gg11 ?exC11 ?hdC11 ?ha11 ?hm11 ?no11 ?ini11 ?tI11
          (case aC11 => k_is); (case hn11 => k_is); (case htk11 => k_is); (case xL11 => k_is); (case bmr11 => decide +kernel); (case sa11 => k_is); (case kC11 => k_is); (case ga11 => k_is); (case gg11 => k_is); (case exC11 => k_is); (case hdC11 => k_is); (case ha11 => k_is); (case hm11 => k_is); (case no11 => k_is); (case ini11 => k_is); (case tI11 => k_is)
        case o12 =>
          refine' YY.one_mk KX G PySem.F.excBase_ValueError PySem.HandSPX.tail_ve ?hn12 ?htk12 ?aC12 ?xL12 ?bmr12 ?sa12 ?kC12 ?ga12 ?gg12 ?exC12 ?hdC12 ?ha12 ?hm12 ?no12 ?ini12 ?tI12
          (case aC12 => k_is); (case hn12 => k_is); (case htk12 => k_is); (case xL12 => k_is); (case bmr12 => decide +kernel); (case sa12 => k_is); (case kC12 => k_is); (case ga12 => k_is); (case gg12 => k_is); (case exC12 => k_is); (case hdC12 => k_is); (case ha12 => k_is); (case hm12 => k_is); (case no12 => k_is); (case ini12 => k_is); (case tI12 => k_is)
        case o13 =>
          refine' YY.one_mk KX G PySem.F.excBase_ValueError PySem.HandSPX.tail_ve ?hn13 ?htk13 ?aC13 ?xL13 ?bmr13 ?sa13 ?kC13 ?ga13 ?gg13 ?exC13 ?hdC13 ?ha13 ?hm13 ?no13 ?ini13 ?tI13
          (case aC13 => k_is); (case hn13 => k_is); (case htk13 => k_is); (case xL13 => k_is); (case bmr13 => decide +kernel); (case sa13 => k_is); (case kC13 => k_is); (case ga13 => k_is); (case gg13 => k_is); (case exC13 => k_is); (case hdC13 => k_is); (case ha13 => k_is); (case hm13 => k_is); (case no13 => k_is); (case ini13 => k_is); (case tI13 => k_is)
        case o14 =>
          refine' YY.one_mk KX G PySem.F.excBase_ValueError PySem.HandSPX.tail_ve ?hn14 ?htk14 ?aC14 ?xL14 ?bmr14 ?sa14 ?kC14 ?ga14 ?gg14 ?exC14 ?hdC14 ?ha14 ?hm14 ?no14 ?ini14 ?tI14
          (case aC14 => k_is); (case hn14 => k_is); (case htk14 => k_is); (case xL14 => k_is); (case bmr14 => decide +kernel); (case sa14 => k_is); (case kC14 => k_is); (case ga14 => k_is); (case gg14 => k_is); (case exC14 => k_is); (case hdC14 => k_is); (case ha14 => k_is); (case hm14 => k_is); (case no14 => k_is); (case ini14 => k_is); (case tI14 => k_is)
        case o15 =>
          refine' YY.one_mk KX G PySem.F.excBase_ValueError PySem.HandSPX.tail_ve ?hn15 ?htk15 ?aC15 ?xL15 ?bmr15 ?sa15 ?kC15 ?ga15 ?gg15 ?exC15 ?hdC15 ?ha15 ?hm15 ?no15 ?ini15 ?tI15
          (case aC15 => k_is); (case hn15 => k_is); (case htk15 => k_is); (case xL15 => k_is); (case bmr15 => decide +kernel); (case sa15 => k_is); (case kC15 => k_is); (case ga15 => k_is); (case gg15 => k_is); (case exC15 => k_is); (case hdC15 => k_is); (case ha15 => k_is); (case hm15 => k_is); (case no15 => k_is); (case ini15 => k_is); (case tI15 => k_is)
        case o16 =>
          refine' YY.one_mk KX G PySem.F.excBase_ValueError PySem.HandSPX.tail_ve ?hn16 ?htk16 ?aC16 ?xL16 ?bmr16 ?sa16 ?kC16 ?ga16 ?gg16 ?exC16 ?hdC16 ?ha16 ?hm16 ?no16 ?ini16 ?tI16
          (case aC16 => k_is); (case hn16 => k_is); (case htk16 => k_is); (case xL16 => k_is); (case bmr16 => decide +kernel); (case sa16 => k_is); (case kC16 => k_is); (case ga16 => k_is); (case gg16 => k_is); (case exC16 => k_is); (case hdC16 => k_is); (case ha16 => k_is); (case hm16 => k_is); (case no16 => k_is); (case ini16 => k_is); (case tI16 => k_is)
        case o17 =>
          refine' YY.one_mk KX G PySem.F.excBase_ValueError PySem.HandSPX.tail_ve ?hn17 ?htk17 ?aC17 ?xL17 ?bmr17 ?sa17 ?kC17 ?ga17 ?gg17 ?exC17 ?hdC17 ?ha17 ?hm17 ?no17 ?ini17 ?tI17
          (case aC17 => k_is); (case hn17 => k_is); (case htk17 => k_is); (case xL17 => k_is); (case bmr17 => decide +kernel); (case sa17 => k_is); (case kC17 => k_is); (case ga17 => k_is); (case gg17 => k_is); (case exC17 => k_is); (case hdC17 => k_is); (case ha17 => k_is); (case hm17 => k_is); (case no17 => k_is); (case ini17 => k_is); (case tI17 => k_is)
        case o18 =>
          refine' YY.one_mk KX G PySem.F.excBase_LookupError PySem.HandSPX.tail_ke ?hn18 ?htk18 ?aC18 ?xL18 ?bmr18 ?sa18 ?kC18 ?ga18 ?gg18 ?exC18 ?hdC18 ?ha18 ?hm18 ?no18 ?ini18 ?tI18
          (case aC18 => k_is); (case hn18 => k_is); (case htk18 => k_is); (case xL18 => k_is); (case bmr18 => decide +kernel); (case sa18 => k_is); (case kC18 => k_is); (case ga18 => k_is); (case gg18 => k_is); (case exC18 => k_is); (case hdC18 => k_is); (case ha18 => k_is); (case hm18 => k_is); (case no18 => k_is); (case ini18 => k_is); (case tI18 => k_is)
        case o19 =>
          refine' YY.one_mk KX G PySem.F.excBase_LookupError PySem.HandSPX.tail_ke ?hn19 ?htk19 ?aC19 ?xL19 ?bmr19 ?sa19 ?kC19 ?ga19 ?gg19 ?exC19 ?hdC19 ?ha19 ?hm19 ?no19 ?ini19 ?tI19
          (case aC19 => k_is); (case hn19 => k_is); (case htk19 => k_is); (case xL19 => k_is); (case bmr19 => decide +kernel); (case sa19 => k_is); (case kC19 => k_is); (case ga19 => k_is); (case gg19 => k_is); (case exC19 => k_is); (case hdC19 => k_is); (case ha19 => k_is); (case hm19 => k_is); (case no19 => k_is); (case ini19 => k_is); (case tI19 => k_is)
        case o20 =>
          refine' YY.one_mk KX G PySem.F.excBase_OverflowError PySem.HandSPX.tail_oe ?hn20 ?htk20 ?aC20 ?xL20 ?bmr20 ?sa20 ?kC20 ?ga20 ?gg20 ?exC20 ?hdC20 ?ha20 ?hm20 ?no20 ?ini20 ?tI20
          (case aC20 => k_is); (case hn20 => k_is); (case htk20 => k_is); (case xL20 => k_is); (case bmr20 => decide +kernel); (case sa20 => k_is); (case kC20 => k_is); (case ga20 => k_is); (case gg20 => k_is); (case exC20 => k_is); (case hdC20 => k_is); (case ha20 => k_is); (case hm20 => k_is); (case no20 => k_is); (case ini20 => k_is); (case tI20 => k_is)
        case o21 =>
          refine' YY.one_mk KX G PySem.F.excBase_OverflowError PySem.HandSPX.tail_oe ?hn21 ?htk21 ?aC21 ?xL21 ?bmr21 ?sa21 ?kC21 ?ga21 ?gg21 ?exC21 ?hdC21 ?ha21 ?hm21 ?no21 ?ini21 ?tI21
          (case aC21 => k_is); (case hn21 => k_is); (case htk21 => k_is); (case xL21 => k_is); (case bmr21 => decide +kernel); (case sa21 => k_is); (case kC21 => k_is); (case ga21 => k_is); (case gg21 => k_is); (case exC21 => k_is); (case hdC21 => k_is); (case ha21 => k_is); (case hm21 => k_is); (case no21 => k_is); (case ini21 => k_is); (case tI21 => k_is)
        case o22 =>
          refine' YY.one_mk KX G PySem.F.excBase_ValueError PySem.HandSPX.tail_ve ?hn22 ?htk22 ?aC22 ?xL22 ?bmr22 ?sa22 ?kC22 ?ga22 ?gg22 ?exC22 ?hdC22 ?ha22 ?hm22 ?no22 ?ini22 ?tI22
          (case aC22 => k_is); (case hn22 => k_is); (case htk22 => k_is); (case xL22 => k_is); (case bmr22 => decide +kernel); (case sa22 => k_is); (case kC22 => k_is); (case ga22 => k_is); (case gg22 => k_is); (case exC22 => k_is); (case hdC22 => k_is); (case ha22 => k_is); (case hm22 => k_is); (case no22 => k_is); (case ini22 => k_is); (case tI22 => k_is)
        case o23 =>
          refine' YY.one_mk KX G PySem.F.excBase_ValueError PySem.HandSPX.tail_ve ?hn23 ?htk23 ?aC23 ?xL23 ?bmr23 ?sa23 ?kC23 ?ga23 ?gg23 ?exC23 ?hdC23 ?ha23 ?hm23 ?no23 ?ini23 ?tI23
          (case aC23 => k_is); (case hn23 => k_is); (case htk23 => k_is); (case xL23 => k_is); (case bmr23 => decide +kernel); (case sa23 => k_is); (case kC23 => k_is); (case ga23 => k_is); (case gg23 => k_is); (case exC23 => k_is); (case hdC23 => k_is); (case ha23 => k_is); (case hm23 => k_is); (case no23 => k_is); (case ini23 => k_is); (case tI23 => k_is)
        case o24 =>
          refine' YY.one_mk KX G PySem.F.excBase_ValueError PySem.HandSPX.tail_ve ?hn24 ?htk24 ?aC24 ?xL24 ?bmr24 ?sa24 ?kC24 ?ga24 ?gg24 ?exC24 ?hdC24 ?ha24 ?hm24 ?no24 ?ini24 ?tI24
          (case aC24 => k_is); (case hn24 => k_is); (case htk24 => k_is); (case xL24 => k_is); (case bmr24 => decide +kernel); (case sa24 => k_is); (case kC24 => k_is); (case ga24 => k_is); (case gg24 => k_is); (case exC24 => k_is); (case hdC24 => k_is); (case ha24 => k_is); (case hm24 => k_is); (case no24 => k_is); (case ini24 => k_is); (case tI24 => k_is)
        case o25 =>
          refine' YY.one_mk KX G PySem.F.excBase_ValueError PySem.HandSPX.tail_ve ?hn25 ?htk25 ?aC25 ?xL25 ?bmr25 ?sa25 ?kC25 ?ga25 ?gg25 ?exC25 ?hdC25 ?ha25 ?hm25 ?no25 ?ini25 ?tI25
          (case aC25 => k_is); (case hn25 => k_is); (case htk25 => k_is); (case xL25 => k_is); (case bmr25 => decide +kernel); (case sa25 => k_is); (case kC25 => k_is); (case ga25 => k_is); (case gg25 => k_is); (case exC25 => k_is); (case hdC25 => k_is); (case ha25 => k_is); (case hm25 => k_is); (case no25 => k_is); (case ini25 => k_is); (case tI25 => k_is)
      case I =>
        refine' YY.Inits.mk ?i0 ?i1 ?i2 ?i3
        case i0 =>
          refine' YY.init_mk0 ?l0 ?c0 ?k0
          (case l0 => k_is); (case c0 => k_is); (case k0 => k_is)
        case i1 =>
          refine' YY.init_mk1 ?l1 ?c1 ?k1
          (case l1 => k_is); (case c1 => k_is); (case k1 => k_is)
        case i2 =>
          refine' YY.init_mk2 ?l2 ?c2 ?k2
          (case l2 => k_is); (case c2 => k_is); (case k2 => k_is)
        case i3 =>
          refine' YY.init_mk3 ?l3 ?c3 ?k3
          (case l3 => k_is); (case c3 => k_is); (case k3 => k_is)
      (case aL => k_is); (case aA => k_is); (case aU => k_is); (case xL => k_is)
      (case bmr => decide +kernel)
      (case sa => k_is); (case kC => k_is); (case ga => k_is); (case gg => k_is); (case exC => k_is); (case hdC => k_is); (case ha => k_is); (case hn => k_is); (case htk => k_is); (case hm => k_is)
      (case e26 => kernel_rfl)
      (case kt => kernel_rfl)
      (case kc => kernel_rfl)
      (case k26 => kernel_rfl)
