import PyProof.Rows.All
import Wide.All
import OpenK.AllK
import Wide.FinOn
import PyProof.EqAt
import PyProof.EqKinds
import PyProof.TupleCall
import HandS.Base
import HandS.Call
import HandS.List
import HandS.Comp
import HandS.Ends
import HandS.Words
import HandS.Walk
import HandS.Dict
import HandS.TupAny
import HandS.Style
import HandS.Exc
import HandS.WordsExc
import PyProof.ReprRoads
import HandS.TryMany
import HandS.ExcField
import HandS.ExcInit
import HandS.MakeKwOnly
import HandS.IsInst
import HandS.Text
import HandS.Iter
import HandS.Zip
import HandS.More
import KE.GoesEnum
import KE.GoesZip
import KE.GoesMore
import PyProof.ListStr
import HandS.Defaults
import HandS.Strs
import PyProof.Rows.RegFStrParts
import HandS.Small
import PyProof.P3Eq
import PySem.Challenge.RW_partedlanes_k23_texts_read_back_and_refu
import PyProof.NeData
import HandS.Star
import HandS.SetFor
import HandS.DictEq
import HandS.DeepEq
import HandS.DictComp
import HandS.DictTup
import HandS.Conv
import HandS.TupMul
import HandS.ClsMeth
import KE.KOpsOwn
import PyProof.ListMulRight
import PyProof.FactsAll.bool
import HandS.FStr
import HandS.IterVal
import HandS.HotCalls
import HandS.SuiteRaise
import KE.KTryMore
import PyProof.ReprNest
import PyProof.MakeMany
import PyProof.RaisesMany
import PyProof.NeKinds
import KE.DatumOrd
import HandS.SortKw
import HandS.Sort
import HandS.RaiseMore
import HandS.TryOnly
import HandS.OwnEq
set_option Elab.async false
set_option linter.all false
theorem PySem.W.Fast.tw5861139174080517213 : True := trivial
theorem PySem.W.Fast.tw6212261883784344431 : True := trivial
theorem PySem.W.Fast.tw141999172761577227 : True := trivial
theorem PySem.W.Fast.tw12798681282698613532 : True := trivial
theorem PySem.W.Fast.tw1998159880902896326 : True := trivial
theorem PySem.W.Fast.tw6193803274284665578 : True := trivial
theorem PySem.W.Fast.tw10551227003054938588 : True := trivial
theorem PySem.W.Fast.tw7874087089584501775 : True := trivial
theorem PySem.W.Fast.tw3347903221226111863 : True := trivial
theorem PySem.W.Fast.tw12929425888425257741 : True := trivial
theorem PySem.W.Fast.tw18319724784514617398 : True := trivial
theorem PySem.W.Fast.tw5742920831345305088 : True := trivial
theorem PySem.W.Fast.tw17148856368205757020 : True := trivial
section
open PySem PySem.W PyProof.Rows
set_option maxRecDepth 100000 in
set_option maxHeartbeats 0 in
open_top k_top_head for PySem.Challenge.rw_partedlanes_k23_texts_read_back_and_refu
end
set_option Elab.async false
set_option linter.all false
set_option maxRecDepth 100000
set_option maxHeartbeats 4000000
namespace XX
open PySem PySem.Spec PyProof.Rows L2

/-- a def that stands under its name: its promise sp, kept at level k -/
structure FnC (P : Program) (w : World) (K : PySem.W.Frag) (mg : Str → Option Value) (base : Heap) (CX : CXT) (k : Nat) (x : Str) (ps : List Str) (sp : Sp) : Prop where
  ex : ∃ (f : Addr) (fd : FuncData), FnOk P w K mg base CX k f fd ps sp ∧ mg x = some (.ref f) ∧ PySem.W.keepIn K (.ref f) = true ∧ Binds K fd ps []
/-- a def of the text under its name -/
structure Def (K : PySem.W.Frag) (mg : Str → Option Value) (x : Str) (st : Stmt) (ps : List Str) : Prop where
  ex : ∃ (f : Addr) (fd : FuncData), Fun K x x st f fd ∧ mg x = some (.ref f) ∧ Binds K fd ps []
section
variable {P : Program} {w : World} {K : PySem.W.Frag} {mg : Str → Option Value} {base : Heap}
theorem Def.ok {x : Str} {st : Stmt} {N ps : List Str} {k : Nat} {sp : Sp} (D : Def K mg x st ps) (S : FnScope N ps (defScope st)) (len : ∀ vs H Q E, sp vs H Q E → vs.length = ps.length)
    (hbody : ∀ (f : Addr) (cdv : Value) (A : Around) (outer : List Env) (s : Shared) (H : Hp) (vs : List V) (Q : VK) (E : XK), Room k (A.deeper (envOfC x (defScope st) s.heap.objs.size f cdv)) → sp vs H Q E →
      ∃ t, PSs (cxOf CX0 P w K mg base N x (defScope st) f cdv A outer s H E).nox (defBody st) t ∧ t { nx := fun _ H' => Q .non H', rt := Q } (start N vs) H) : FnC P w K mg base CX0 (k + 1) x ps sp := by
  obtain ⟨f, fd, F, hm, hb⟩ := D.ex
  exact ⟨f, fd, F.ok S len (hbody f), hm, F.kp, hb⟩
theorem FnC.mono {CX : CXT} {j k : Nat} {x : Str} {ps : List Str} {sp : Sp} (c : FnC P w K mg base CX j x ps sp) (h : j ≤ k) : FnC P w K mg base CX k x ps sp := by
  obtain ⟨f, fd, F, r⟩ := c.ex
  exact ⟨f, fd, F.mono h, r⟩
end
section
variable {X : Cx} {k : Nat} {x : Str} {ps : List Str} {sp : Sp} {p pos : Pos} {e : Expr} {es : List Expr} {t : TA}
theorem pe_c (c : FnC X.prog X.w X.K X.mg X.base CX0 k x ps sp) (hr : Room k X.A) (hg : Gl X x) (ha : PA X (e :: es) t) (hdb : (x == ("__debug__" : Str)) = false := by decide)
    (he : starEach (e :: es) X.env = (false, eval e X.env) :: starEach es X.env := by rfl) (hpl : (backTo pos (starEach es X.env)).any (·.1) = false := by rfl) :
    PE X (.Call (.Name x p) (e :: es) [] pos) (tCall sp [] E0 t) := by
  obtain ⟨f, fd, F, hm, hk, hb⟩ := c.ex
  exact pe_call F hr hg hm hk hb .nil pass0 ha hdb he hpl
end
/-- how a def under its name is had from what the head tells -/
theorem def_mk {K : PySem.W.Frag} {h : Heap} {mg : Str → Option Value} {f : Addr} {x : Str} {st : Stmt} {ps : List Str} {oc : Value} {od an : Option Addr} {osl : Array (Option Value)} {kV dc pm cd ct : Value} (X : K.In h) (G : h.Ns mainGlobals mg)
    (a : PySem.W.nsIn K mainGlobals x = some (some (.ref f))) (l : K.lookup f = some ⟨oc, od, .func (PySem.W.fnOf x x (defArgs st) (defBody st) (defScope st) .none kV dc pm an cd ct), osl⟩) (c : PySem.W.codeIn K cd x = true) (kp : PySem.W.keepIn K (.ref f) = true)
    (h : ∀ (kV doc pm : Value) (an : Option Addr) (cdv ct : Value) (us : List Value), us.length = ps.length → bindArgs (PySem.W.fnOf x x (defArgs st) (defBody st) (defScope st) .none kV doc pm an cdv ct) ⟨us, []⟩ = pure (ps.zip us)) : Def K mg x st ps :=
  ⟨f, _, fun_mk l c kp, PySem.W.mg_of X G a, (fun_mk l c kp).binds h⟩
end XX

set_option maxRecDepth 100000
set_option maxHeartbeats 4000000
namespace XX
open PySem PySem.Spec PyProof.Rows L2
/-- a for over J, behind the reading of what it walks -/
def LoopW (J : It) (g : TG) (tb : TS) (D : Ends) (σ : L2.St) (H1 : Hp) : Prop := tFor (fun _ H R => R J H) g tb D σ H1
theorem tFor_eq (wi : TI) (g : TG) (tb : TS) (D : Ends) (σ : L2.St) (H : Hp) : tFor wi g tb D σ H = wi σ H fun J H1 => LoopW J g tb D σ H1 := rfl
theorem loop_it {J : It} {n : Nat} {G : Hp → Prop} {Y : Nat → Hp → V → Hp → Prop} (w : Walk J n G Y) {g : TG} {tb : TS} {D : Ends} {σ : L2.St} {H : Hp} (Pv : Nat → L2.St → Hp → Prop) (h0 : Pv 0 σ H) (hG : ∀ i σ H, i ≤ n → Pv i σ H → G H)
    (hs : ∀ i x σ H H', i < n → Pv i σ H → Y i H x H' → g x σ H' fun σ2 H2 => tb { nx := Pv (i + 1), rt := D.rt, bk := D.nx, ct := Pv (i + 1) } σ2 H2) (hd : ∀ σ H, Pv n σ H → D.nx σ H) : LoopW J g tb D σ H := for_it w Pv h0 hG hs hd
/-- a comprehension over J -/
def LcW (J : It) (g : TG) (tt : TT) (te : TE) (vs : List Nat) (σ : L2.St) (H1 : Hp) (Q : VK) : Prop := tLc (fun _ H R => R J H) g tt te vs σ H1 Q
theorem tLc_eq (wi : TI) (g : TG) (tt : TT) (te : TE) (vs : List Nat) (σ : L2.St) (H : Hp) (Q : VK) : tLc wi g tt te vs σ H Q = wi σ H fun J H1 => LcW J g tt te vs σ H1 Q := rfl
/-- what a turn of a comprehension gives -/
def LcEnd (te : TE) (D : Addr) (Nx : Hp → Prop) (σ : L2.St) (b : Bool) (H : Hp) : Prop := if b = true then te σ H (fun y H' => ∃ acc, H' D = some (HO.lst acc) ∧ acc.length < sizeLine ∧ Nx (upd H' D (HO.lst (acc ++ [y])))) else Nx H
theorem lcw_it {J : It} {n : Nat} {G : Hp → Prop} {Y : Nat → Hp → V → Hp → Prop} (w : Walk J n G Y) {g : TG} {tt : TT} {te : TE} {vs : List Nat} {σ : L2.St} {H1 : Hp} {Q : VK} (Pv : Addr → Nat → Hp → Prop) (h0 : ∀ D, H1 D = none → Pv D 0 (upd H1 D (HO.lst []))) (hG : ∀ D i H, i ≤ n → Pv D i H → G H)
    (hs : ∀ D i x H H', H1 D = none → i < n → Pv D i H → Y i H x H' → g x (wipe σ vs) H' fun σ2 H2 => wipe σ2 vs = wipe σ vs ∧ tt σ2 H2 fun b H3 => LcEnd te D (Pv D (i + 1)) σ2 b H3) (hd : ∀ D H, H1 D = none → Pv D n H → Q (.ref D) H) : LcW J g tt te vs σ H1 Q :=
  fun D hD => lc_it w (Pv D) (h0 D hD) (hG D) (fun i x H H' hi hp hy => hs D i x H H' hD hi hp hy) (fun H hp => hd D H hD hp)
section
variable {CX : CXT} {P : Program} {w : World} {K : PySem.W.Frag} {mg : Str → Option Value} {base : Heap} {N : List Str} {qual : Str} {scope : Scope} {f : Addr} {cd : Value} {A : Around} {outer : List Env} {s : Shared} {H : Hp} {E : XK}
theorem cxOf_K : (cxOf CX P w K mg base N qual scope f cd A outer s H E).K = K := rfl
theorem cxOf_noxK : (cxOf CX P w K mg base N qual scope f cd A outer s H E).nox.K = K := rfl
end
theorem bool_ite_true {α : Sort _} (a b : α) : (if true = true then a else b) = a := if_pos rfl
theorem bool_ite_false {α : Sort _} (a b : α) : (if false = true then a else b) = b := if_neg (by decide)
theorem dec_ite {α : Sort _} {c : Prop} [Decidable c] (a b : α) : (if decide c = true then a else b) = if c then a else b := by
  by_cases h : c <;> simp [h]
theorem ndec_ite {α : Sort _} {c : Prop} [Decidable c] (a b : α) : (if (!decide c) = true then a else b) = if c then b else a := by
  by_cases h : c <;> simp [h]
end XX

set_option maxRecDepth 100000
set_option maxHeartbeats 4000000
namespace XX
open PySem PySem.Spec PyProof.Rows L2
/-! ### a text times a number -/
def strRep (z : Str) (k : Int) : Str := if k < 1 then Str.empty else if (k == 1 || z.length == 0) = true then z else ⟨(List.replicate k.toNat z.cps).foldl (· ++ ·) #[]⟩
theorem repl_size (z : Array Nat) : ∀ (k : Nat) (a : Array Nat), ((List.replicate k z).foldl (· ++ ·) a).size = a.size + k * z.size
  | 0, a => by simp
  | k + 1, a => by
    rw [List.replicate_succ, List.foldl_cons, repl_size z k, Array.size_append, Nat.succ_mul]
    omega
theorem strRep_length (z : Str) (k : Int) : (strRep z k).length = k.toNat * z.length := by
  unfold strRep
  by_cases h : k < 1
  · rw [if_pos h]
    have e : k.toNat = 0 := by omega
    rw [e, Nat.zero_mul]
    rfl
  · rw [if_neg h]
    by_cases c : (k == 1 || z.length == 0) = true
    · rw [if_pos c]
      rw [Bool.or_eq_true] at c
      rcases c with c | c
      · have e : k = 1 := eq_of_beq c
        rw [e]
        simp
      · have e : z.length = 0 := eq_of_beq c
        rw [e, Nat.mul_zero]
    · rw [if_neg c]
      show (List.foldl (· ++ ·) #[] (List.replicate k.toNat z.cps)).size = _
      rw [repl_size]
      show 0 + k.toNat * z.cps.size = k.toNat * z.cps.size
      omega
def rMulS : R2 := fun x y H Q => ∃ (z : Str) (k : Int), x = .str z ∧ y = .int k ∧ 0 ≤ k ∧ k ≤ 100000 ∧ z.length ≤ 100 ∧ Q (.str (strRep z k)) H
theorem op_mulS {X : Cx} : OpR X (binaryOp .Mult) rMulS := by
  intro pins s σ H x y v u Q I rx ry h
  obtain ⟨z, k, rfl, rfl, h0, h1, h2, q⟩ := h
  obtain ⟨t1, rfl⟩ := (show ∃ t, v = Value.str z t from rx)
  obtain ⟨t2, rfl⟩ := (show ∃ t, u = Value.int k t from ry)
  have hmul : z.length * k.toNat ≤ 10000000 := by
    have : z.length * k.toNat ≤ 100 * 100000 := Nat.mul_le_mul h2 (by omega)
    omega
  have hlen : Builtin.Str.tooLong (z.length * k.toNat) = false := by
    unfold Builtin.Str.tooLong
    have := sizeLine_eq
    simp
    omega
  refine PySem.P.mul_str ?_ (fun hk1 hc => ?_) (fun _ _ => hlen) ?_
  · have a1 : ¬ k < -(2 ^ 63 : Int) := by omega
    have a2 : ¬ k ≥ 2 ^ 63 := by omega
    rw [decide_eq_false a1, decide_eq_false a2]
    rfl
  · have hk0 : 0 < k := by omega
    have e : (2 ^ 63 - 1 : Int) / 100000 ≤ (2 ^ 63 - 1) / k := by
      apply Int.le_ediv_of_mul_le hk0
      have : (2 ^ 63 - 1 : Int) / 100000 * k ≤ (2 ^ 63 - 1 : Int) / 100000 * 100000 := Int.mul_le_mul_of_nonneg_left h1 (by decide)
      have e2 : (2 ^ 63 - 1 : Int) / 100000 * 100000 ≤ 2 ^ 63 - 1 := by decide
      omega
    have e3 : (100 : Int) ≤ (2 ^ 63 - 1 : Int) / 100000 := by decide
    omega
  · have hq := q
    unfold strRep at hq
    by_cases c1 : k < 1
    · rw [if_pos c1] at hq ⊢
      exact ⟨by decide, .str Str.empty, H, I.tok _, ⟨_, rfl⟩, hq⟩
    · rw [if_neg c1] at hq ⊢
      by_cases c2 : (k == 1 || z.length == 0) = true
      · rw [if_pos c2] at hq ⊢
        exact ⟨.str z, H, I, ⟨_, rfl⟩, hq⟩
      · rw [if_neg c2] at hq ⊢
        refine ⟨?_, .str _, H, I.tok _, ⟨_, rfl⟩, hq⟩
        show Str.length ⟨List.foldl (· ++ ·) #[] (List.replicate k.toNat z.cps)⟩ ≤ _
        have e : Str.length ⟨List.foldl (· ++ ·) #[] (List.replicate k.toNat z.cps)⟩ = k.toNat * z.length := by
          show (List.foldl (· ++ ·) #[] (List.replicate k.toNat z.cps)).size = _
          rw [repl_size]
          show 0 + k.toNat * z.cps.size = k.toNat * z.cps.size
          omega
        rw [e, Nat.mul_comm, sizeLine_eq]
        omega

/-! ### a tuple backwards -/
theorem fm_congr {α β : Type} {f g : α → Option β} : ∀ {l : List α}, (∀ m ∈ l, f m = g m) → l.filterMap f = l.filterMap g
  | [], _ => rfl
  | a :: l, h => by
    have e := fm_congr (l := l) fun m hm => h m (List.mem_cons_of_mem _ hm)
    rw [List.filterMap_cons, List.filterMap_cons, h a (List.mem_cons_self ..), e]
theorem rev_pick (xs : Array Value) : ((List.range xs.size).filterMap fun (m : Nat) => xs[(((xs.size : Int) - 1) + (m : Int) * (-1)).toNat]?) = xs.toList.reverse := by
  have e : (List.range xs.size).filterMap (fun (m : Nat) => xs[(((xs.size : Int) - 1) + (m : Int) * (-1)).toNat]?) = ((List.range xs.size).map fun k => xs.size - 1 - k).filterMap (xs[·]?) := by
    rw [List.filterMap_map]
    refine fm_congr fun m hm => ?_
    have := List.mem_range.mp hm
    show xs[(((xs.size : Int) - 1) + (m : Int) * (-1)).toNat]? = xs[xs.size - 1 - m]?
    have e2 : (((xs.size : Int) - 1) + (m : Int) * (-1)).toNat = xs.size - 1 - m := by omega
    rw [e2]
  rw [e, PySem.W.krv_range, List.filterMap_reverse, PySem.W.krv_all]
section
variable {prog : Program} {w : World} {A : Around} {E : Value → Shared → Prop} {s : Shared}
open HT in
theorem getItem_tuple_rev {t sl : Addr} {items : Array Value} {vs : Value} {Q : Value → Shared → Prop} (ht : IsTup s.heap t items) (hs : s.heap.IsSliceOf sl .none .none vs) (ps : IsPart vs (some (-1)))
    (h : Q (.ref s.heap.objs.size) { s with heap := s.heap.push { cls := .type "tuple", data := .seq items.toList.reverse.toArray } }) (hsz : items.size ≤ sizeLine) : wpAny (model prog w) A (getItem (.ref t) (.ref sl)) Q E s := by
  have htake : sizeOk (.seq items.toList.reverse.toArray) := by
    show items.toList.reverse.toArray.size ≤ sizeLine
    rw [List.size_toArray, List.length_reverse, Array.length_toList]
    exact hsz
  obtain ⟨os, hos, hcs, hds⟩ := id hs
  have hTs : s.TypeIs (.ref sl) "slice" := ⟨os, hos, hcs⟩
  unfold getItem
  try with_reducible refine wpAny_holding ?_
  first | refine wpAny_bind (wpAny_pure ?_) | skip
  refine wpAny_bind (wpAny_sequenceKey ht.typeIs (by decide) ?_)
  refine wpAny_bind (wpAny_callSpecial?_slot (name := Str.ofString "__getitem__") ht.typeIs PyProof.Rows.slot_tuple_getitem
    (wpAny_call_entry PyProof.Rows.slot_tuple_getitem ht.typeIs entry_tuple_getitem ?_ (args_tuple_getitem _ _)))
  show wpAny _ _ (Builtin.Tuple.tupleItemsOf (.ref t) >>= _) _ _ s
  refine wpAny_bind (tupleItemsOf_ ht ?_)
  refine wpAny_bind (wpAny_typeOf hTs ?_)
  rw [if_pos (by decide)]
  have happ : ∀ {A : Around} {E : Value → Shared → Prop} {R : Int × Int × Nat → Shared → Prop}, R (((items.size : Nat) : Int) - 1, -1, items.size) s → wpAny (model prog w) A (Builtin.Slice.sliceApplied (.ref sl) (pure ((items.size : Nat) : Int))) R E s := by
    intro A E R q
    unfold Builtin.Slice.sliceApplied Builtin.Slice.sliceFields
    refine wpAny_bind (wpAny_bind (wpAny_field hos hds (x := .none) rfl (wpAny_bind (wpAny_field hos hds (x := .none) rfl (wpAny_bind (wpAny_field hos hds (x := vs) rfl (wpAny_pure ?_)))))))
    refine wpAny_bind (slicePart_ ps ?_)
    show wpAny _ _ (if ((-1 : Int) == 0) = true then _ else _) _ _ s
    rw [if_neg (by decide)]
    refine wpAny_bind (slicePart_none (wpAny_bind (slicePart_none (wpAny_bind (wpAny_pure ?_)))))
    have e1 : Builtin.Slice.sliceAdjust none none (-1) ((items.size : Nat) : Int) = (((items.size : Nat) : Int) - 1, -1) := rfl
    show wpAny _ _ (match Builtin.Slice.sliceAdjust none none (-1) ((items.size : Nat) : Int) with | (lo, hi) => pure (lo, (-1 : Int), Builtin.Slice.slicePlaces lo hi (-1))) _ _ s
    rw [e1]
    have e2 : Builtin.Slice.slicePlaces (((items.size : Nat) : Int) - 1) (-1) (-1) = items.size := by
      unfold Builtin.Slice.slicePlaces
      have h1 : ¬ ((-1 : Int) > 0) := by decide
      have h2 : (- -1 : Int) = 1 := by decide
      simp only [h1, if_false, h2, Int.ediv_one]
      split <;> omega
    show wpAny _ _ (pure (((items.size : Nat) : Int) - 1, (-1 : Int), Builtin.Slice.slicePlaces (((items.size : Nat) : Int) - 1) (-1) (-1))) _ _ s
    rw [e2]
    exact wpAny_pure q
  refine wpAny_bind (happ ?_)
  have hno : ¬ ((((items.size : Nat) : Int) - 1 == 0 && (-1 : Int) == 1 && items.size == items.size) = true) := by
    intro q
    rw [Bool.and_eq_true, Bool.and_eq_true] at q
    exact absurd (eq_of_beq q.1.2) (by decide)
  show wpAny _ _ (if (((items.size : Nat) : Int) - 1 == 0 && (-1 : Int) == 1 && items.size == items.size) = true then _ else _) _ _ s
  rw [if_neg hno, rev_pick]
  first
    | exact wpAny_bind (m := Builtin.Tuple.tupleExact _) (wpAny_newObj_type (wpAny_pure ⟨_, rfl, wpAny_pure h⟩) htake)
    | exact wpAny_bind (m := Builtin.Tuple.tupleExact _) (wpAny_newObj_type (wpAny_bind (wpAny_pure (wpAny_pure ⟨_, rfl, wpAny_pure h⟩))) htake)
    | exact wpAny_bind (wpAny_bind (m := Builtin.Tuple.tupleExact _) (wpAny_newObj_type (wpAny_pure (wpAny_pure ⟨_, rfl, wpAny_pure h⟩)) htake))
    | exact wpAny_bind (wpAny_bind (m := Builtin.Tuple.tupleExact _) (wpAny_newObj_type (wpAny_pure ⟨_, rfl, wpAny_pure h⟩) htake))
end
/-- t[::-1], t a tuple -/
def tRevT (K : PySem.W.Frag) (te : TE) : TE := fun σ H Q => te σ H fun x H1 => ∃ a xs, x = .ref a ∧ SqT K H1 a xs ∧ ∀ p, H1 p = none → Q (.ref p) (upd H1 p (.tup xs.reverse))
theorem pe_revT {X : Cx} {e : Expr} {te : TE} {k : Nat} {p1 p2 p3 pos : Pos} (he : PE X e te) : PE X (.Subscript e (.Slice none none (some (.UnaryOp .USub (.Constant (.int 1) k p1) p2)) p3) pos) (tRevT X.K te) := by
  refine ⟨fun pins s σ H Q I h => ?_⟩
  refine Subscript_ (thn (he.run pins s σ H _ I h) fun v s1 ⟨x, H1, I1, r1, q1⟩ => ?_)
  obtain ⟨a, xs, ex, hx, q⟩ := q1
  subst ex
  cases r1
  have hst : PO X (some (.UnaryOp .USub (.Constant (.int 1) k p1) p2)) (tPart (tUn (rU fun i => .int (-i)) (tC (.int 1)))) := po_some (pe_un un_neg pe_int)
  refine wpAny_Slice (thn (po_none.run pins s1 σ H1 (fun o H2 => o = none ∧ H2 = H1) I1 ⟨rfl, rfl⟩) fun vl s2 ⟨l, H2, I2, pl, el, e2⟩ => ?_)
  subst el e2
  refine thn (po_none.run pins s2 σ H2 (fun o H3 => o = none ∧ H3 = H2) I2 ⟨rfl, rfl⟩) fun vu s3 ⟨u, H3, I3, pu, eu, e3⟩ => ?_
  subst eu e3
  refine thn (hst.run pins s3 σ H3 (fun o H4 => o = some (-1) ∧ H4 = H3) I3 ⟨1, rfl, -1, rfl, rfl, rfl⟩) fun vs s4 ⟨o, H4, I4, ps, eo, e4⟩ => ?_
  subst eo e4
  have I5 : Inv X pins σ H4 { s4 with heap := s4.heap.push { cls := .type "slice", data := .fields #[vl, vu, vs] } } := I4.kept (t' := s4.toks) fun b ob q => Heap.get?_push_of_some _ q
  obtain ⟨its, r, ht, hz⟩ := I5.tuple hx
  have hlen := r.length
  cases pl
  cases pu
  show wpAny (model X.prog X.w) X.A (subscriptTail e (.Slice none none (some (.UnaryOp .USub (.Constant (.int 1) k p1) p2)) p3) (.ref a) (.ref s4.heap.objs.size)) (EP X pins σ Q) X.xe { s4 with heap := s4.heap.push { cls := .type "slice", data := .fields #[.none, .none, vs] } }
  refine tail_any (ops := [.ref a, .ref s4.heap.objs.size]) ht.typeIs PyProof.Rows.slot_tuple_getitem.lookup (getItem_tuple_rev ht (Heap.IsSliceOf.new _ _ _ vs) ps ?_ (by rw [List.size_toArray, ← hlen]; exact hz)) (by with_unfolding_all rfl)
  refine ⟨.ref _, _, I5.laid (t' := s4.toks) (o := .tup xs.reverse) (fun b ob q => Heap.get?_push_of_some _ q) (Nat.le_refl _) ⟨by rw [List.length_reverse]; exact hz, _, r.reverse, IsTup.new _ _⟩, rfl, q _ (I5.hok.fresh (Nat.le_refl _))⟩

/-! ### a cut between two statements -/
def tCut (t u : TS) : TS := fun D σ H => ∃ I : L2.St → Hp → Prop, t { nx := I, rt := D.rt, bk := D.bk, ct := D.ct } σ H ∧ ∀ τ G, I τ G → u D τ G
theorem pss_cut {X : Cx} {st : Stmt} {rest : List Stmt} {t u : TS} (h1 : PS X st t) (h2 : PSs X rest u) : PSs X (st :: rest) (tCut t u) := by
  refine ⟨fun pins s σ H D J q => ?_⟩
  obtain ⟨I, q1, q2⟩ := q
  refine wpAny_execs_cons (thn (h1.run pins s σ H _ J q1) fun f s1 r => ?_)
  match f, r with
  | .next, ⟨τ, G, J1, r1⟩ => exact h2.run pins s1 τ G D J1 (q2 τ G r1)
  | .brk, r => exact r
  | .cont, r => exact r
  | .ret u, r => exact r
end XX

set_option maxRecDepth 100000
set_option maxHeartbeats 4000000
namespace XX
open PySem PySem.Spec PyProof.Rows L2
/-! ### promises of defs that are kept where no object is being shown (repr) -/
structure FnG (P : Program) (w : World) (K : PySem.W.Frag) (mg : Str → Option Value) (base : Heap) (CX : CXT) (k : Nat) (f : Addr) (fd : FuncData) (ps : List Str) (sp : Sp) : Prop where
  lenG : ∀ vs H Q E, sp vs H Q E → vs.length = ps.length
  runG : ∀ (A : Around) (outer : List Env) (s : Shared) (H : Hp) (args : Args) (us : List Value) (vs : List V) (Q : VK) (E : XK), A.guards = some [] → Room k A → Env0 P w K mg base A outer s H →
    BindsTo s fd args (ps.zip us) → Vals vs us → sp vs H Q E → codeAny (model P w) A (.call (.ref f) args) (CR CX outer P w H s Q E) s
structure FnD (P : Program) (w : World) (K : PySem.W.Frag) (mg : Str → Option Value) (base : Heap) (CX : CXT) (k : Nat) (x : Str) (ps : List Str) (sp : Sp) : Prop where
  ex : ∃ (f : Addr) (fd : FuncData), FnG P w K mg base CX k f fd ps sp ∧ mg x = some (.ref f) ∧ PySem.W.keepIn K (.ref f) = true ∧ Binds K fd ps []
section
variable {P : Program} {w : World} {K : PySem.W.Frag} {mg : Str → Option Value} {base : Heap}
theorem guards_deeper {A : Around} {env : Env} (h : A.guards = some []) : (A.deeper env).guards = some [] := h
theorem Def.okG {CX : CXT} {x : Str} {st : Stmt} {N ps : List Str} {k : Nat} {sp : Sp} (D : Def K mg x st ps) (S : FnScope N ps (defScope st)) (len : ∀ vs H Q E, sp vs H Q E → vs.length = ps.length)
    (hbody : ∀ (f : Addr) (cdv : Value) (A : Around) (outer : List Env) (s : Shared) (H : Hp) (vs : List V) (Q : VK) (E : XK), (A.deeper (envOfC x (defScope st) s.heap.objs.size f cdv)).guards = some [] → Room k (A.deeper (envOfC x (defScope st) s.heap.objs.size f cdv)) → sp vs H Q E →
      ∃ t, PSs (cxOf CX P w K mg base N x (defScope st) f cdv A outer s H E) (defBody st) t ∧ t { nx := fun _ H' => Q .non H', rt := Q } (L2.start N vs) H) : FnD P w K mg base CX (k + 1) x ps sp := by
  obtain ⟨f, fd, F, hm, hb⟩ := D.ex
  refine ⟨f, fd, ⟨len, fun A outer s H args us vs Q E hg hr e0 hbd r hsp => ?_⟩, hm, F.kp, hb⟩
  obtain ⟨oc, od, kV, doc, pm, an, cdv, ct, osl, rfl, lk, hcd⟩ := F.ex
  have len0 := len _ _ _ _ hsp
  have hin : K.In s.heap := e0.mod.kin.keeps fun b o q => (e0.bs b o q).1
  have hnl : s.heap.NoLimit := e0.mod.nolimit.keeps fun b o q => (e0.bs b o q).1
  have knd : ∀ y ∈ ps.zip us, (defScope st).names.lookup y.1 = some .local ∨ ((defScope st).names.lookup y.1 = some .cell ∧ ((cellsFrom (s.heap.objs.size + 1) (defScope st).names []).lookup y.1).isSome = true) := by
    rintro ⟨n, v⟩ hy
    exact (S.par n (List.of_mem_zip hy).1).imp id fun q => ⟨q, PySem.W.cellsFrom_some _ _ _ (.inl q)⟩
  refine codeAny_call_function hr.depth (hin _ _ lk) rfl S.co S.gen rfl (PySem.W.codeRec_of hin hcd) (hbd _ _ _ _ (wpAny_newFunctionEnv_cells S.kind knd fun env he s1 x1 => ?_))
  subst he
  refine ⟨hnl.keeps x1.toInCall.keep, codeAny_func ?_⟩
  obtain ⟨t, ht, hq⟩ := hbody f cdv A outer s H vs Q E (guards_deeper hg) (hr.deeper _) hsp
  have fin : ∀ {s' : Shared} {τ : L2.St} {H' : Hp} {v : V} {u : Value}, Inv (cxOf CX P w K mg base N x (defScope st) f cdv A outer s H E) [] τ H' s' → RelV v u → Q v H' → CE outer P w H s Q u s' :=
    fun J rv q => ⟨_, _, J.os, J.bare, J.base, J.hok, rv, q⟩
  refine wpAny_mono (ht.run [] s1 (L2.start N vs) H _ (inv_start S hr.hd e0 len0 r x1) hq) (fun fl s' hs => ?_) fun e s' hs => hs
  match fl, hs with
  | .ret u, ⟨v, τ, H', J, rv, q⟩ => exact fin J rv q
  | .next, ⟨τ, H', J, q⟩ => exact fin (v := V.non) (u := Value.none) J rfl q
  | .brk, ⟨_, _, _, q⟩ => exact q.elim
  | .cont, ⟨_, _, _, q⟩ => exact q.elim
end
section
variable {X : Cx} {CX : CXT} {k : Nat} {x : Str} {ps : List Str} {sp : Sp} {p pos : Pos} {e : Expr} {es : List Expr} {t : TA} {E : XK}
theorem pe_d (c : FnD X.prog X.w X.K X.mg X.base CX k x ps sp) (hgu : X.A.guards = some []) (hr : Room k X.A) (hx : Passes CX X E) (hg : Gl X x) (ha : PA X (e :: es) t) (hdb : (x == ("__debug__" : Str)) = false := by decide)
    (he : starEach (e :: es) X.env = (false, eval e X.env) :: starEach es X.env := by rfl) (hpl : (backTo pos (starEach es X.env)).any (·.1) = false := by rfl) :
    PE X (.Call (.Name x p) (e :: es) [] pos) (tCall sp [] E t) := by
  obtain ⟨f, fd, F, hm, hk, hb⟩ := c.ex
  refine ⟨fun pins s σ H Q I h => wpAny_Call_Name_kw (ld_glob I hg hm (PySem.W.callWith_K (h₀ := X.base) I.ok.mod.kin hk (thn (ha.run pos pins s σ H _ I h) fun us s1 ⟨vs, H1, I1, r, q⟩ => ⟨I1.kIn, ?_⟩) he hpl) hdb)⟩
  have q' : sp vs H1 Q E := List.append_nil vs ▸ q
  have hl : us.length = ps.length := by rw [← Vals.length r]; exact F.lenG _ _ _ _ q'
  have hbd := hb s1 us I1.kIn (by rw [List.append_nil]; exact hl)
  rw [List.append_nil] at hbd
  refine wpAny_call (codeAny_mono (F.runG X.A X.stack s1 H1 ⟨us, []⟩ us vs Q E hgu hr I1.env0 hbd r q') fun r2 s' hq => ?_)
  match r2, hq with
  | .error er, hq => exact hx pins σ H1 s1 er s' I1 hq
  | .ok (.ret u), hq => exact I1.after hq
  | .ok .next, hq => exact False.elim hq
  | .ok .brk, hq => exact False.elim hq
  | .ok .cont, hq => exact False.elim hq
end
/-! ### repr of data -/
def rReprD (K : PySem.W.Frag) : List V → Hp → VK → Prop := fun xs H Q => ∃ (v : V) (d : PyData), xs = [v] ∧ Dp K H v d ∧ d.showable = true ∧ d.hasDict = false ∧ d.depth ≤ 64 ∧ d.shown.length ≤ sizeLine ∧ Q (.str d.shown) H
section
variable {X : Cx}
theorem call_reprD (hg : X.A.guards = some []) (hu : X.A.units + 80 < cLine) : CallR X (.builtin "repr") (rReprD X.K) := by
  intro pins s σ H xs us Q I r h
  obtain ⟨v, d, rfl, hd, h1, h2, h3, h4, q⟩ := h
  obtain ⟨u, rfl, ru⟩ := vals1 r
  obtain ⟨as, rd⟩ := Dp.reads I d v u hd ru
  cases rd with
  | none => exact PySem.P.repr_of_none ⟨.str _, H, I.tok _, ⟨_, rfl⟩, q⟩
  | bool b => exact PySem.P.repr_of_bool ⟨.str _, H, I.tok _, ⟨_, rfl⟩, q⟩
  | int i t => exact PySem.P.repr_of_int (by simpa [PyData.showable] using h1) ⟨.str _, H, I.tok _, ⟨_, rfl⟩, q⟩
  | str x t => exact PySem.P.repr_of_str ⟨.str _, H, I.tok _, ⟨_, rfl⟩, q⟩ (by simpa [PyData.shown] using h4)
  | list a1 a2 a3 a4 => exact repr_of_reads' (.list a1 a2 a3 a4) h1 (fun z => by rw [h2] at z; cases z) hg (by omega) (fun _ _ e => e) (fun h' u tk hk => ⟨.str _, H, I.kept (t' := tk) hk, ⟨_, rfl⟩, q⟩) h4
  | tuple a1 a2 a3 a4 => exact repr_of_reads' (.tuple a1 a2 a3 a4) h1 (fun z => by rw [h2] at z; cases z) hg (by omega) (fun _ _ e => e) (fun h' u tk hk => ⟨.str _, H, I.kept (t' := tk) hk, ⟨_, rfl⟩, q⟩) h4
  | dict a1 a2 a3 a4 a5 => exact absurd h2 (by simp [PyData.hasDict])
end
end XX

set_option maxRecDepth 100000
set_option maxHeartbeats 4000000
namespace XX
open PySem PySem.Spec PyProof.Rows L2
/-- the script's abstract heap: nothing is tracked but, perhaps, the script at a -/
def scriptHp (a : Addr) (ob : Obj) (ns : List Int) : Hp := fun b => if b = a then some (.frz ob (.lst (ns.map V.int))) else none
theorem scriptHp_some {a b : Addr} {ob : Obj} {ns : List Int} {u : HO} (h : scriptHp a ob ns b = some u) : b = a ∧ u = .frz ob (.lst (ns.map V.int)) := by
  unfold scriptHp at h
  by_cases c : b = a
  · rw [if_pos c] at h
    exact ⟨c, (Option.some.inj h).symm⟩
  · rw [if_neg c] at h
    cases h
section
variable {P : Program} {w : World} {K : PySem.W.Frag} {mg mb : Str → Option Value} {CX : CXT} {k : Nat} {fa a : Addr} {fd : FuncData} {x : Str} {sp : Sp} {s₁ : Shared} {vs : List Value} {ns : List Int}
/-- the law's call from an abstract heap H that tracks at most the script -/
theorem law_core (KX : K.In s₁.heap) (hns : s₁.heap.Ns mainGlobals mg) (hb : s₁.heap.Ns builtinsNs mb) (hbb : ∀ x : Str, x ≠ "__name__" → mb x = bootBuiltins x) (hlim : s₁.heap.NoLimit) (hg : s₁.gens = #[])
    (ha : s₁.heap.get? a = some { cls := .type "list", data := .seq vs.toArray }) (hr : Room k callerA)
    (F : ∀ base : Heap, K.In base → base.Ns mainGlobals mg → FnG P w K mg base CX k fa fd [x] sp) (hbind : ∀ (s : Shared) (u : Value), BindsTo s fd ⟨[u], []⟩ [(x, u)])
    {H : Hp} (hsp : sp [.ref a] H (fun v _ => v = .bl true) fun _ _ _ => False) (hCX : ∀ e s', CX [] H s₁ (fun _ _ _ => False) e s' → False) (hO : Only H) (hok : HOk P w H s₁.heap) (hA : ∀ b u, H b = some u → b = a) (hK : ∀ u, H a = some u → K.lookup a = none) :
    codeAny (model P w) callerA (.call (.ref fa) ⟨[.ref a], []⟩) (fun r s' => r = .ok (.ret (.bool true)) ∧ OldK s₁.heap s'.heap ∧ s'.os = s₁.os ∧ AllBare s'.gens) s₁ := by
  have free : ∀ {b : Addr} {o : Obj} {es : Array DictEntry} {ep : Nat}, s₁.heap.get? b = some o → o.data = .dict es ep → H b = none := fun {b o es ep} e d => by
    cases q : H b with
    | none => rfl
    | some u =>
      have e' := hA b u q
      subst e'
      rw [ha] at e
      cases e
      cases d
  have nsH : ∀ {b : Addr} {m : Str → Option Value}, s₁.heap.Ns b m → (hidT s₁.heap H).Ns b m := fun {b m} ⟨o, es, ep, e, d, r⟩ => ⟨o, es, ep, hidT_get e (free e d), d, r⟩
  have kH : K.In (hidT s₁.heap H) := fun b o e => hidT_get (KX b o e) (by
    cases q : H b with
    | none => rfl
    | some u =>
      have e' := hA b u q
      subst e'
      rw [hK u q] at e
      cases e)
  obtain ⟨mc, l1, l2⟩ := hlim
  have md : Mod K mg (hidT s₁.heap H) := ⟨kH, nsH hns, ⟨mb, nsH hb, hbb⟩, ⟨mc, nsH l1, l2⟩⟩
  have e0 : Env0 P w K mg (hidT s₁.heap H) callerA [] s₁ H := ⟨rfl, md, fun b o e => of_hidT e, Nat.le_of_eq (hidT_size _ _), trivial, fun b z => absurd z List.not_mem_nil, hok, .of_eq hg⟩
  refine codeAny_mono ((F _ kH (nsH hns)).runG callerA [] s₁ H ⟨[.ref a], []⟩ [.ref a] [.ref a] _ _ rfl hr e0 (hbind s₁ (.ref a)) (.cons rfl .nil) hsp) fun r s' h => ?_
  match r, h with
  | .error e, h => exact (hCX e s' h).elim
  | .ok .next, h => exact False.elim h
  | .ok .brk, h => exact False.elim h
  | .ok .cont, h => exact False.elim h
  | .ok (.ret u), ⟨v, H', os, bare, un, hok', rv, ev⟩ =>
    have ev' : v = .bl true := ev
    subst ev'
    cases (show u = Value.bool true from rv)
    refine ⟨rfl, OldK.of_keep fun b o e => ?_, os, bare⟩
    rcases hO b with z | ⟨ob, xs, z⟩
    · exact un.keep b o e z List.not_mem_nil List.not_mem_nil
    · obtain ⟨e1, _⟩ := hok b _ z
      obtain ⟨e2, _⟩ := hok' b _ (un.frzs b ob _ z)
      rw [e] at e1
      cases e1
      exact e2
theorem law_callG (KX : K.In s₁.heap) (hns : s₁.heap.Ns mainGlobals mg) (hb : s₁.heap.Ns builtinsNs mb) (hbb : ∀ x : Str, x ≠ "__name__" → mb x = bootBuiltins x) (hlim : s₁.heap.NoLimit) (hg : s₁.gens = #[])
    (ha : s₁.heap.get? a = some { cls := .type "list", data := .seq vs.toArray }) (hi : IntsAre vs ns) (hl : ns.length ≤ sizeLine) (hr : Room k callerA)
    (F : ∀ base : Heap, K.In base → base.Ns mainGlobals mg → FnG P w K mg base CX k fa fd [x] sp) (hbind : ∀ (s : Shared) (u : Value), BindsTo s fd ⟨[u], []⟩ [(x, u)])
    (hsp : ∀ H : Hp, Only H → SqL K H a (ns.map V.int) → sp [.ref a] H (fun v _ => v = .bl true) fun _ _ _ => False) (hCX : ∀ H e s', CX [] H s₁ (fun _ _ _ => False) e s' → False) :
    codeAny (model P w) callerA (.call (.ref fa) ⟨[.ref a], []⟩) (fun r s' => r = .ok (.ret (.bool true)) ∧ OldK s₁.heap s'.heap ∧ s'.os = s₁.os ∧ AllBare s'.gens) s₁ := by
  have rv := vals_of_ints hi
  have lv := hi.length
  cases hk : K.lookup a with
  | some o =>
    have e := KX a o hk
    rw [ha] at e
    cases e
    have O0 : Only (fun _ => none) := fun _ => .inl rfl
    exact law_core KX hns hb hbb hlim hg ha hr F hbind (hsp _ O0 (.inr ⟨_, vs.toArray, _, hk, rfl, rfl, rfl, by rw [List.size_toArray, lv]; exact hl, by simpa using rv⟩)) (hCX _) O0 (fun b u z => nomatch z) (fun b u z => nomatch z) fun u z => nomatch z
  | none =>
    have O1 : Only (scriptHp a { cls := .type "list", data := .seq vs.toArray } ns) := fun b => by
      cases q : scriptHp a { cls := .type "list", data := .seq vs.toArray } ns b with
      | none => exact .inl rfl
      | some u => exact .inr ⟨_, _, by rw [(scriptHp_some q).2]⟩
    refine law_core KX hns hb hbb hlim hg ha hr F hbind (hsp _ O1 (.inl (.inr ⟨_, if_pos rfl⟩))) (hCX _) O1 (fun b u z => ?_) (fun b u z => (scriptHp_some z).1) fun _ _ => hk
    obtain ⟨e1, e2⟩ := scriptHp_some z
    subst e1 e2
    exact ⟨ha, by rw [List.length_map]; exact hl, vs, _, rv, ha⟩
end
theorem walk_ofG {l : PySem.W.OpenLaw} {n k : Nat} {q : Program} {loose : List Str} {XP : (Str → Option Value) → Heap → Prop} {YP : World → Heap → Prop} {d : DefRec} {K : Params → PySem.W.Frag} {CX : World → CXT} {sp : PySem.W.Frag → Sp} {x : Str}
    (hn : l.most = some n) (hn2 : n ≤ sizeLine) (hdf : d.params.defaults = []) (hr : Room k callerA) (hY : ∀ (w : World) (h : Heap), YP w h → (K w.params).In h)
    (F : ∀ (w : World) (mg : Str → Option Value) (fa : Addr) (h : Heap), (K w.params).In h → h.Ns mainGlobals mg → mg d.name = some (.ref fa) →
      ∃ fd : FuncData, (∀ (s : Shared) (u : Value), BindsTo s fd ⟨[u], []⟩ [(x, u)]) ∧ ∀ base : Heap, (K w.params).In base → base.Ns mainGlobals mg → FnG l.prog w (K w.params) mg base (CX w) k fa fd [x] (sp (K w.params)))
    (hsp : ∀ (K : PySem.W.Frag) (H : Hp) (a : Addr) (ns : List Int), ns.length ≤ n → Only H → SqL K H a (ns.map V.int) → sp K [.ref a] H (fun v _ => v = .bl true) fun _ _ _ => False)
    (hCX : ∀ (w : World) (H : Hp) (s : Shared) (e : Value) (s' : Shared), CX w [] H s (fun _ _ _ => False) e s' → False) :
    PySem.W.WalkO q loose XP YP l.row.toRowW d [] (fun f vs => PySem.call f vs) := by
  refine Att.attach_call hn hdf fun w s₀ s₁ mg mb fa o pm cd doc a vs ns G Y ho hd hcd hmg hobj hints hlen hg => ?_
  have KX := hY w _ Y
  obtain ⟨fd, hb, hF⟩ := F w mg fa _ KX G.T.g hmg
  exact law_callG KX G.T.g G.T.b G.T.builtins G.T.nolimit hg hobj hints (Nat.le_trans hlen hn2) hr hF hb (fun H hO hS => hsp _ H a ns hlen hO hS) fun H e s' => hCX w H s₁ e s'
end XX

set_option maxRecDepth 100000
set_option maxHeartbeats 4000000
namespace XX
open PySem PySem.Spec PyProof.Rows L2
/-! ### try: .. except C1 as n: .. except C2 as n: .. -/
abbrev Clause := Value × (Addr → Value → Option Addr → TS)
/-- what the clauses wish of an exception, the first that takes it; slot i is n's -/
def wMA (K : PySem.W.Frag) (i : Nat) (Wout : WX) (D : Ends) : List Clause → WX
  | [] => Wout
  | c :: r => wAs K c.1 i c.2 (wMA K i Wout D r) D
inductive HdsAs (X : Cx) (n : Str) : List ExceptHandler → List Clause → Prop
  | nil : HdsAs X n [] []
  | cons {x : Str} {c : Value} {ts : Addr → Value → Option Addr → TS} {b₀ : Stmt} {suite : List Stmt} {np pos' : Pos} {hds : List ExceptHandler} {l : List Clause} (hc : Names X x c)
      (hsu : ∀ (a : Addr) (oe : Obj) (cls : Value) (d : Option Addr) (pn : List (Addr × Obj)), Zc cls d oe → (∃ vs, oe.data = .fields vs) → PSs (X.suite a ((a, oe) :: pn)) (b₀ :: suite) (ts a cls d)) (r : HdsAs X n hds l) :
      HdsAs X n (.ExceptHandler (some (.Name x np)) (some n) (b₀ :: suite) pos' :: hds) ((c, ts) :: l)
section
variable {X : Cx} {n : Str} {i : Nat} {body : List Stmt} {h₀ : ExceptHandler} {hds : List ExceptHandler} {l : List Clause} {pos : Pos} {tb : WX → TS} {Wout : WX}
theorem ps_try_mas (hs : X.stack = X.env :: X.outer) (hf : X.env.frame = some X.env.locals) (hN : X.N.Nodup) (hi : X.N[i]? = some n) (hln : X.env.kindOf n = some .local) (tk : Takes X Wout)
    (hb : ∀ (W : WX) (pn : List (Addr × Obj)) (xe : Value → Shared → Prop), Takes (X.tr pn xe) W → PassesOwn (model X.prog X.w) X.A X.env xe → PSs (X.tr pn xe) body (tb W))
    (hh : HdsAs X n (h₀ :: hds) l) : PS X (.Try body (h₀ :: hds) [] [] pos) (fun D σ H => tb (wMA X.K i Wout D l) D σ H) := by
  refine ⟨fun pins s σ H D I h => ?_⟩
  have ok := I.ok
  have hfr : X.A.frames = some (X.env :: X.outer) := by rw [ok.frames, hs]
  have hloc : Loc X.env.scope n := .inl hln
  refine wpAny_Try_except (wpAny_mono ((hb (wMA X.K i Wout D l) (X.pn ++ pins) (fun e s₁ => wpAny (model X.prog X.w) X.A (noteFrame e X.env) (fun _ s₂ => wpAny (model X.prog X.w) X.A (setFlight e none) (fun _ s₃ =>
    wpAny (model X.prog X.w) X.A (handleBy e X.env (h₀ :: hds)) (SP X pins D) X.xe s₃) X.xe s₂) X.xe s₁) (fun u s' xx => ?_) PassesOwn.looking).run [] s σ H D (I.toTry _) h) (fun f s1 hsp => ?_) (fun e s1 he => he))
  · obtain ⟨a, B, sI, pins', σ', H', cls, d, rfl, J', nb, up, sky, na, os, ag, w⟩ := xx
    have J : Inv X pins σ' H' sI := J'.ofTry ok
    rw [hs] at sky
    refine Sky.land Zc.steady hfr hf sky fun h3 fl3 up3 => ?_
    have J3 : Inv X pins σ' H' { s' with heap := h3 } := J.landed nb fl3.1 (up.trans up3) os ag
    obtain ⟨oe3, vs3, he3, hz3, hd3⟩ := fl3.there
    have nfr : a ∉ frs (X.env :: X.outer) := fun hm => by
      obtain ⟨_, o', e', hnf⟩ := fl3.2.2.1.mem hm
      rw [he3] at e'
      cases e'
      exact hnf _ hd3
    have nL : a ≠ X.env.locals := fun z => nfr (List.mem_filterMap.mpr ⟨X.env, List.mem_cons_self, by rw [hf, z]⟩)
    have nF : a ∉ X.fs := fun hm => by
      obtain ⟨e, he, q⟩ := List.mem_filterMap.mp hm
      exact nfr (List.mem_filterMap.mpr ⟨e, List.mem_cons_of_mem _ he, q⟩)
    have S3 := J3.suite he3 hd3 na nL nF
    have go : ∀ {hds' : List ExceptHandler} {l' : List Clause}, HdsAs X n hds' l' → wMA X.K i Wout D l' cls d σ' H' →
        wpAny (model X.prog X.w) X.A (handleBy (.ref a) X.env hds') (SP X pins D) X.xe { s' with heap := h3 } := by
      intro hds' l' hk
      induction hk with
      | nil =>
        intro w
        refine wpAny_handleBy_nil ?_
        obtain ⟨k1, k2, k3, oe, vs, T, oT, ts', he, hz, hd, h1, hr⟩ := id fl3
        unfold PySem.passOn
        refine wpAny_bind (wpAny_field he hd h1 ?_)
        rw [if_neg (show ¬ ((Value.ref T == Value.none) = true) from by simp)]
        have fin : wpAny (model X.prog X.w) X.A (setFlight (.ref a) X.env.frame) (fun _ s4 => wpAny (model X.prog X.w) X.A (throw (.ref a) : Sem Flow) (SP X pins D) X.xe s4) X.xe { s' with heap := h3 } := by
          rw [hf]
          refine HandSPX.setFlight_upZ fl3 fun h4 hh4 up4 => wpAny_throw (tk _ _ ?_)
          exact ⟨a, B, sI, pins, σ', H', cls, d, rfl, J, nb, (up.trans up3).trans up4, .inr (.inr (by rw [hs]; exact hh4)), na, os, ag, w⟩
        first
          | exact wpAny_bind (wpAny_pure (wpAny_bind fin))
          | exact wpAny_bind fin
      | @cons x c ts b₀ suite np pos' hds2 l2 hc hsu r ih =>
        rintro ⟨b, hb1, hyes, hno⟩
        refine wpAny_handleBy_cons (codeAny_handlers_test ?_) (by intro q; cases q)
        have LT : PySem.W.Looks (model X.prog X.w) h3 (typeOf (.ref a)) cls := fun A Q E s k q => wpAny_typeOf_ref (k _ _ he3) (by rw [hz3.1]; exact q)
        have LM := PySem.W.exm_one (M := model X.prog X.w) (J3.kIn) LT hb1
        have test : ∀ {Q : Value → Shared → Prop} {E : Value → Shared → Prop}, Q c { s' with heap := h3 } → wpAny (model X.prog X.w) (X.A.mark (some (.ref a))) (eval (.Name x np) X.env) Q E { s' with heap := h3 } := fun {Q E} q => by
          obtain ⟨hg, hdbg, hm | ⟨hm, hv, hnn⟩⟩ := hc
          · exact ld_glob (X := X.suite a ((a, oe3) :: (X.pn ++ pins))) S3 hg hm q hdbg
          · exact ld_blt (X := X.suite a ((a, oe3) :: (X.pn ++ pins))) S3 hg hm hv q hnn hdbg
        refine test (LM.here ?_)
        cases b with
        | true =>
          refine codeAny_handlers_suite_as (HandSPX.lands_againZ fl3 fun h4 fl4 up4 => ?_)
          have J4 : Inv X pins σ' H' { s' with heap := h4 } := J.landed nb fl4.1 ((up.trans up3).trans up4) os ag
          obtain ⟨oe4, vs4, he4, hz4, hd4⟩ := fl4.there
          have S4 := J4.suite he4 hd4 na nL nF
          refine store_ok (X := X.suite a ((a, oe4) :: (X.pn ++ pins))) (v := .ref a) S4 hN hi hloc rfl (fun s5 S5 => ?_) (.inr hln)
          refine wpAny_mono ((hsu a oe4 cls d (X.pn ++ pins) hz4 ⟨_, hd4⟩).run [] s5 _ H' _ S5 (hyes rfl a na)) (fun f s6 hsp => ?_) (fun _ _ z => False.elim z)
          have stop : ∀ {τ : L2.St} {H6 : Hp} {Q : Shared → Prop}, Inv (X.suite a ((a, oe4) :: (X.pn ++ pins))) [] τ H6 s6 → (∀ s7, Inv X pins (τ.set i none) H6 s7 → Q s7) →
              wpAny (model X.prog X.w) X.A (do bindName X.env n .none; unbindBehindTheSuite X.env n pos') (fun _ s7 => Q s7) X.xe s6 := fun {τ H6 Q} S6 hq => gone_ok (S6.unsuite ok) hN hi hln hq
          match f, hsp with
          | .next, ⟨τ, H6, S6, q6⟩ => exact stop S6 fun s7 J7 => ⟨_, _, J7, q6⟩
          | .brk, ⟨τ, H6, S6, q6⟩ => exact stop S6 fun s7 J7 => ⟨_, _, J7, q6⟩
          | .cont, ⟨τ, H6, S6, q6⟩ => exact stop S6 fun s7 J7 => ⟨_, _, J7, q6⟩
          | .ret u, ⟨v6, τ, H6, S6, r6, q6⟩ => exact stop S6 fun s7 J7 => ⟨_, _, _, J7, r6, q6⟩
        | false =>
          show wpAny _ X.A (handleBy (.ref a) X.env hds2) _ _ _
          exact ih (hno rfl)
    exact go hh w
  · match f, hsp with
    | .next, ⟨τ, H', J', q⟩ => exact wpAny_execs_nil ⟨τ, H', J'.ofTry ok, q⟩
    | .brk, ⟨τ, H', J', q⟩ => exact ⟨τ, H', J'.ofTry ok, q⟩
    | .cont, ⟨τ, H', J', q⟩ => exact ⟨τ, H', J'.ofTry ok, q⟩
    | .ret u, ⟨v, τ, H', J', r, q⟩ => exact ⟨v, τ, H', J'.ofTry ok, r, q⟩
end
end XX

set_option maxRecDepth 100000
set_option maxHeartbeats 4000000
namespace XX
open PySem PySem.Spec PyProof.Rows L2
/-! ### the package's errors: an own class under ValueError whose __init__ keeps one value -/
/-- what the written part says of such a class, under the name x, its __init__ (its own or inherited) at fI -/
structure ErrC (K : PySem.W.Frag) (mg : Str → Option Value) (x : Str) (C fI : Addr) : Prop where
  g : mg x = some (.ref C)
  oex : OexC K C
  xf : XfC K C
  ini : PySem.W.findIn K (.ref C) "__init__" = some (some (.ref fI))
  tI : PySem.W.typeIn K (.ref fI) = some (.type "function")
  no : PySem.W.findIn K (.ref C) "value" = some none
/-- its __init__: self.value is told -/
def spErr (K : PySem.W.Frag) : Sp := fun vs H Q _ => ∃ (a C : Addr) (v : V), vs = [.ref a, v] ∧ OexC K C ∧ PySem.W.findIn K (.ref C) "value" = some none ∧ H a = some (exo a C none) ∧
  ∀ dx, H dx = none → dx ≠ a → Q .non (upd (upd H dx (exd dx [("value", v)])) a (exo a C (some dx)))
theorem err_heap {H : Hp} {a dx : Addr} {o1 o2 o3 u : HO} (h : dx ≠ a) (ha : H a = none) : upd (del (upd (upd (upd H a o1) dx o2) a o3) a) dx u = upd H dx u := by
  funext b
  by_cases hb : b = dx
  · rw [hb, upd_same, upd_same]
  · rw [upd_ne hb, upd_ne hb]
    by_cases hc : b = a
    · rw [hc, del_same, ha]
    · rw [del_ne hc, upd_ne hc, upd_ne hb, upd_ne hc]
/-- what raising asks behind its value v: the way out at the error's own dict -/
theorem err_of {K : PySem.W.Frag} {C : Addr} {v : V} {H : Hp} {Q : XK} (oex : OexC K C) (no : PySem.W.findIn K (.ref C) "value" = some none) (h : ∀ d, H d = none → Q (.ref C) (some d) (upd H d (.xd [("value", v)]))) :
    ([v] : List V).length ≤ 1000 ∧ ∀ a, H a = none → spErr K (.ref a :: ([v] ++ [])) (upd H a (exo a C none))
      (fun v' H2 => v' = .non ∧ ∃ (d : Addr) (fs : List (Str × V)), H2 a = some (exo a C (some d)) ∧ H2 d = some (exd d fs) ∧ H d = none ∧ Q (.ref C) (some d) (upd (del H2 a) d (.xd fs))) (fun _ _ _ => False) := by
  refine ⟨(by show 1 ≤ 1000; decide), fun a ha => ⟨a, C, v, rfl, oex, no, upd_same, fun dx hd hne => ⟨rfl, dx, [("value", v)], upd_same, by rw [upd_ne hne, upd_same], ?_, ?_⟩⟩⟩
  · rw [upd_ne hne] at hd
    exact hd
  · rw [upd_ne hne] at hd
    rw [err_heap hne ha]
    exact h dx hd
section
variable {X : Cx} {CX : CXT} {k : Nat} {x : Str} {C fI : Addr} {fd : FuncData} {p pos pos2 : Pos} {e : Expr} {te : TE} {W : WX}
/-- raise x(e) -/
def tErr (K : PySem.W.Frag) (C : Addr) (W : WX) (te : TE) : TS := fun _ σ H => tMkO C (spErr K) [] (tCons te tNil) σ H fun cls d H' => W cls d σ H'
theorem ps_err (T : ErrC X.K X.mg x C fI) (F : FnOk X.prog X.w X.K X.mg X.base CX0 k fI fd ["self", "value"] (spErr X.K)) (hb : Binds X.K fd ["self", "value"] []) (hr : Room (k + 1) X.A) (hc : X.calm = true) (tk : Takes X W) (he : PE X e te) (hg : Gl X x)
    (hdb : (x == ("__debug__" : Str)) = false := by decide) (hs : starEach [e] X.env = [(false, eval e X.env)] := by rfl) (hs0 : starEach (e :: []) X.env = (false, eval e X.env) :: starEach [] X.env := by rfl) (hpl : (backTo pos (starEach [] X.env)).any (·.1) = false := by rfl) :
    PS X (.Raise (some (.Call (.Name x p) [e] [] pos)) none pos2) (tErr X.K C W te) :=
  ps_raise hc tk (pmk_oex T.oex T.ini T.tI F hr hb .nil pass0 hg T.g (pa_cons he pa_nil hs0) hdb hs0 hpl)
end
end XX

set_option maxRecDepth 100000
set_option maxHeartbeats 4000000
namespace XX
open PySem PySem.Spec PyProof.Rows L2
/-! ### values by their data: the type, isinstance -/
def tyOf : PyData → String
  | .none => "NoneType"
  | .bool _ => "bool"
  | .int _ => "int"
  | .str _ => "str"
  | .list _ => "list"
  | .tuple _ => "tuple"
  | .dict _ => "dict"
theorem ty_dp {K : PySem.W.Frag} {H : Hp} {v : V} {d : PyData} (h : Dp K H v d) : TyX K H v (.type (tyOf d)) := by
  cases h with
  | non => exact .base .non
  | bl b => exact .base (.bl b)
  | int i => exact .base (.int i)
  | str x => exact .base (.str x)
  | lst hs _ =>
    rcases hs with (e | ⟨o, e⟩) | ⟨o, its, n, e, c, _⟩
    · exact .base (.lst e)
    · exact .base (.frz e)
    · exact .kList e c
  | tup hs _ =>
    rcases hs with (e | ⟨o, e⟩) | ⟨o, its, n, e, c, _⟩
    · exact .base (.tup e)
    · exact .fTuple e
    · exact .kTuple e c
def isTy (a b : String) : Bool := a == b || (a == "bool" && b == "int")
def knownTy (T : String) : Prop := T = "int" ∨ T = "bool" ∨ T = "str" ∨ T = "tuple" ∨ T = "list"
theorem kitB_is : ∀ a ∈ ["NoneType", "bool", "int", "str", "list", "tuple", "dict"], ∀ b ∈ ["int", "bool", "str", "tuple", "list"], kitB a b = some (isTy a b) := by decide +kernel
theorem tyOf_mem (d : PyData) : tyOf d ∈ ["NoneType", "bool", "int", "str", "list", "tuple", "dict"] := by cases d <;> simp [tyOf]
theorem kit_is {K : PySem.W.Frag} (d : PyData) {T : String} (h : knownTy T) : PySem.W.kitOne K (.type (tyOf d)) (.type T) = some (isTy (tyOf d) T) :=
  kit_ty (kitB_is _ (tyOf_mem d) _ (by rcases h with rfl | rfl | rfl | rfl | rfl <;> simp))
def rIsD (T : String) (K : PySem.W.Frag) : List V → Hp → VK → Prop := fun xs H Q => ∃ (x : V) (d : PyData), xs = [x, .ty T] ∧ Dp K H x d ∧ Q (.bl (isTy (tyOf d) T)) H
theorem CallR.imp {X : Cx} {f : Value} {r r' : List V → Hp → VK → Prop} (h : CallR X f r) (i : ∀ xs H Q, r' xs H Q → r xs H Q) : CallR X f r' := fun pins s σ H xs us Q I rr q => h pins s σ H xs us Q I rr (i _ _ _ q)
theorem call_isD {X : Cx} {T : String} (hT : knownTy T) : CallR X (.builtin "isinstance") (rIsD T X.K) := CallR.imp call_isi fun xs H Q ⟨x, d, e, h, q⟩ => ⟨x, .ty T, _, _, _, e, .ty T, ty_dp h, kit_is d hT, q⟩
theorem ty_int : knownTy "int" := .inl rfl
theorem ty_bool : knownTy "bool" := .inr (.inl rfl)
theorem ty_str : knownTy "str" := .inr (.inr (.inl rfl))
theorem ty_tuple : knownTy "tuple" := .inr (.inr (.inr (.inl rfl)))
theorem pe_ty {X : Cx} {x : Str} {pos : Pos} (T : String) (hg : Gl X x) (hm : X.mg x = none) (hv : bootBuiltins x = some (.type T) := by decide +kernel) (hn : x ≠ "__name__" := by decide) (hd : (x == ("__debug__" : Str)) = false := by decide) : PE X (.Name x pos) (tC (.ty T)) := pe_bltn (v := .ty T) (u := .type T) hg hm hv rfl hn hd
theorem kit_is2 {K : PySem.W.Frag} (d : PyData) {T U : String} (h : knownTy T) (h2 : knownTy U) : PySem.W.kitAny K (.type (tyOf d)) [.type T, .type U] = some (isTy (tyOf d) T || isTy (tyOf d) U) := by
  refine kitAny_cons (kit_is d h) (fun e => ?_) fun e => by rw [e]; rfl
  rw [e, Bool.false_or]
  refine kitAny_cons (kit_is d h2) (fun e => ?_) fun e => e
  rw [e]
  rfl
theorem ty_list : knownTy "list" := .inr (.inr (.inr (.inr rfl)))
/-! ### the checks, of data -/
def isWhole : PyData → Bool
  | .int _ => true
  | _ => false
def btw (d : PyData) (lo hi : Int) : Bool := match d with
  | .int i => decide (lo ≤ i) && decide (i ≤ hi)
  | _ => false
def wordS (z : Str) : Bool := decide (1 ≤ z.length) && decide (z.length ≤ 8) && z.cps.toList.all fun c => decide (97 ≤ c ∧ c ≤ 122)
def wordB : PyData → Bool
  | .str z => wordS z
  | _ => false
theorem isTy_int (d : PyData) : isTy (tyOf d) "int" = (match d with | .int _ => true | .bool _ => true | _ => false) := by cases d <;> rfl
theorem isTy_bool (d : PyData) : isTy (tyOf d) "bool" = (match d with | .bool _ => true | _ => false) := by cases d <;> rfl
theorem isTy_str (d : PyData) : isTy (tyOf d) "str" = (match d with | .str _ => true | _ => false) := by cases d <;> rfl
theorem isTy_tuple (d : PyData) : isTy (tyOf d) "tuple" = (match d with | .tuple _ => true | _ => false) := by cases d <;> rfl
/-! ### small data -/
mutual
def sm : PyData → Bool
  | .str z => decide (z.length ≤ 1000) && z.cps.all (· < 0x110000)
  | .int i => decide (-10 ≤ i) && decide (i ≤ 1000)
  | .list ds => decide (ds.length ≤ 1000) && sms ds
  | .tuple ds => decide (ds.length ≤ 1000) && sms ds
  | .none => true
  | .bool _ => true
  | .dict _ => false
def sms : List PyData → Bool
  | [] => true
  | d :: ds => sm d && sms ds
end
theorem sms_mem : ∀ {ds : List PyData} {d : PyData}, sms ds = true → d ∈ ds → sm d = true
  | [], d, _, h => nomatch h
  | e :: ds, d, s, h => by
    rw [sms, Bool.and_eq_true] at s
    rcases List.mem_cons.mp h with rfl | h
    · exact s.1
    · exact sms_mem s.2 h
theorem sms_of : ∀ {ds : List PyData}, (∀ d ∈ ds, sm d = true) → sms ds = true
  | [], _ => rfl
  | e :: ds, h => by
    rw [sms, h e (List.mem_cons_self ..), sms_of fun d m => h d (List.mem_cons_of_mem _ m)]
    rfl
theorem sm_str {z : Str} (h : sm (.str z) = true) : z.length ≤ 1000 := by
  rw [sm, Bool.and_eq_true] at h
  exact of_decide_eq_true h.1
mutual
theorem sm_lay : ∀ {d : PyData}, sm d = true → d.canLay0 = true
  | .none, _ => rfl
  | .bool _, _ => rfl
  | .int _, _ => rfl
  | .str z, h => by
    rw [sm, Bool.and_eq_true] at h
    rw [PyData.canLay0]
    exact h.2
  | .list ds, h => by
    rw [sm, Bool.and_eq_true] at h
    rw [PyData.canLay0]
    exact sms_lay h.2
  | .tuple ds, h => by
    rw [sm, Bool.and_eq_true] at h
    rw [PyData.canLay0]
    exact sms_lay h.2
theorem sms_lay : ∀ {ds : List PyData}, sms ds = true → PyData.canLayAll0 ds = true
  | [], _ => rfl
  | d :: ds, h => by
    rw [sms, Bool.and_eq_true] at h
    rw [PyData.canLayAll0, sm_lay h.1, sms_lay h.2]
    rfl
end
theorem sm_shaped {d : PyData} (h : sm d = true) (hd : d.depth ≤ 64) : SeqAt.shaped d = true := by
  unfold SeqAt.shaped
  rw [sm_lay h, decide_eq_true hd]
  rfl
theorem sm_tup {ds : List PyData} (h : sm (.tuple ds) = true) : ds.length ≤ 1000 ∧ sms ds = true := by
  rw [sm, Bool.and_eq_true] at h
  exact ⟨of_decide_eq_true h.1, h.2⟩
theorem sm_lst {ds : List PyData} (h : sm (.list ds) = true) : ds.length ≤ 1000 ∧ sms ds = true := by
  rw [sm, Bool.and_eq_true] at h
  exact ⟨of_decide_eq_true h.1, h.2⟩
def strEq : PyData → PyData → Bool
  | .str x, .str y => x == y
  | _, _ => false
def regsB : PyData → Bool
  | .tuple [a] => wordB a
  | .tuple [a, b] => wordB a && wordB b && !strEq a b
  | _ => false
end XX

set_option maxRecDepth 100000
set_option maxHeartbeats 4000000
namespace XX
open PySem PySem.Spec PyProof.Rows L2
local macro_rules | `(tactic| walk_at "ao") => `(tactic| (delta Addr at *; omega))
/-! ### lists or tuples, by a truth t: a tuple if it is true -/
theorem same_nw {H : Hp} {q : Addr} {o : HO} (e : H q = none) : Same H (upd H q o) := fun b u hb => by
  rw [upd_ne (ne_of_none hb e)]
  exact hb
def SqA (t : Bool) (K : PySem.W.Frag) (H : Hp) (a : Addr) (xs : List V) : Prop :=
  match t with
  | true => SqT K H a xs
  | false => SqL K H a xs
def IsSA (t : Bool) (h : Heap) (a : Addr) (items : Array Value) : Prop :=
  match t with
  | true => h.IsTuple a items
  | false => h.IsList a items
def IsItA (t : Bool) (h : Heap) (it a : Addr) (i : Nat) : Prop :=
  match t with
  | true => h.IsTupleIter it a i
  | false => h.IsListIter it a i
def itObj (t : Bool) (a : Addr) : Obj :=
  match t with
  | true => { cls := .type "tuple_iterator", data := .fields #[.ref a, .int 0 0] }
  | false => { cls := .type "list_iterator", data := .fields #[.ref a, .int 0 0] }
theorem itObj_is {t : Bool} {h : Heap} {it a : Addr} (g : h.get? it = some (itObj t a)) : IsItA t h it a 0 := by
  cases t
  · exact ⟨_, g, rfl, rfl⟩
  · exact ⟨_, g, rfl, rfl⟩
theorem IsItA.at {t : Bool} {h h' : Heap} {it a : Addr} {i : Nat} (x : IsItA t h it a i) (k : ∀ o, h.get? it = some o → h'.get? it = some o) : IsItA t h' it a i := by
  cases t
  · exact Heap.IsListIter.at (show h.IsListIter it a i from x) k
  · exact Heap.IsTupleIter.at (show h.IsTupleIter it a i from x) k
theorem IsItA.obj {t : Bool} {h : Heap} {it a : Addr} {i : Nat} (x : IsItA t h it a i) : ∃ o vs, h.get? it = some o ∧ o.data = .fields vs := by
  cases t
  · obtain ⟨o, ho, _, hd⟩ := (show h.IsListIter it a i from x)
    exact ⟨o, _, ho, hd⟩
  · obtain ⟨o, ho, _, hd⟩ := (show h.IsTupleIter it a i from x)
    exact ⟨o, _, ho, hd⟩
theorem sqA_its {X : Cx} {pins : List (Addr × Obj)} {σ : L2.St} {H : Hp} {s : Shared} {t : Bool} {a : Addr} {xs : List V} (I : Inv X pins σ H s) (h : SqA t X.K H a xs) : ∃ its : List Value, Vals xs its ∧ IsSA t s.heap a its.toArray ∧ a < s.heap.objs.size := by
  cases t
  · obtain ⟨its, rv, p, _⟩ := I.list (show SqL X.K H a xs from h)
    exact ⟨its, rv, p.isList, p.lt⟩
  · obtain ⟨its, rv, p, _⟩ := I.tuple (show SqT X.K H a xs from h)
    obtain ⟨o, ho, _⟩ := id p
    exact ⟨its, rv, p, Heap.lt_size ho⟩
theorem sqA_inj {X : Cx} {pins : List (Addr × Obj)} {σ : L2.St} {H : Hp} {s : Shared} {t : Bool} {a : Addr} {xs ys : List V} (I : Inv X pins σ H s) (h : SqA t X.K H a xs) (h' : SqA t X.K H a ys) : xs = ys := by
  cases t
  · exact I.list_inj h h'
  · exact I.tuple_inj h h'
theorem beginsA (t : Bool) (a : Addr) (items : Array Value) : Begins (.ref a) (itObj t a) (fun h => IsSA t h a items) := by
  cases t
  · exact begins_list a items
  · exact begins_tuple a items
theorem drawsA {prog : Program} {w : World} {A : Around} (t : Bool) (hh : A.handled = none) (it a : Addr) (hne : a ≠ it) (items : Array Value) :
    Draws prog w A it [it, a] items.size (fun i v => items[i]? = some v) (fun i h => IsItA t h it a i ∧ IsSA t h a items) := by
  cases t
  · exact Draws.list hh it a hne items
  · exact Draws.tuple hh it a hne items
/-! ### enumerate of a list or a tuple -/
theorem enum_newB {v : Value} {o : Obj} {G : Heap → Prop} (B : Begins v o G) : Meets (Builtin.«enumerate.__new__» ⟨[.type "enumerate", v], []⟩) (fun _ R s => G s.heap ∧ R (.ok (.ret (.ref (s.heap.push o).objs.size)))
      { s with heap := (s.heap.push o).push { cls := .type "enumerate", data := .fields #[.none, .bool false, .ref s.heap.objs.size, rawInt 0, .none, .none] } }) :=
  .of_wp fun prog w A R s h => by
    obtain ⟨hp, g, d, tk, os⟩ := s
    obtain ⟨hG, q⟩ := h
    have hsub := sub_enumerate
    have q1 : ∀ {A' : Around} {E' Q' : Value → Shared → Prop}, Q' (.ref hp.objs.size) ⟨hp.push o, g, d, tk, os⟩ → wpAny (model prog w) A' (pyIter v) Q' E' ⟨hp, g, d, tk, os⟩ := fun z => B.iter prog w _ _ ⟨hp, g, d, tk, os⟩ _ hG z
    wp_walk
    refine wpAny_stack_any fun st => wpAny_pure ?_
    split
    · rename_i c _ _ _ _ _
      cases hcc : (c == Value.type "enumerate")
      · wp_walk using q1
        exact ⟨_, rfl, q⟩
      · wp_walk using q1
        exact ⟨_, rfl, q⟩
    · wp_walk using q1
      exact ⟨_, rfl, q⟩
theorem call_enumB {prog : Program} {w : World} {A : Around} {E : Value → Shared → Prop} {s : Shared} {v : Value} {o : Obj} {G : Heap → Prop} {Q : Value → Shared → Prop} (B : Begins v o G) (hG : G s.heap)
    (h : ∀ h', IsEnum h' (s.heap.objs.size + 1) s.heap.objs.size 0 .none → h'.get? s.heap.objs.size = some o → h'.objs.size = s.heap.objs.size + 2 → (∀ b u, s.heap.get? b = some u → h'.get? b = some u) → Q (.ref (s.heap.objs.size + 1)) { s with heap := h' }) :
    wpAny (model prog w) A (call (.type "enumerate") [v]) Q E s := by
  refine callType_new F.called_enumerate (by decide) (F.typeCall_enumerate_1 _) (F.newCall_enumerate_1 _) (fun b => F.args_object_init_2 b _) F.entry_enumerate_new (enum_newB B) ⟨hG, ?_⟩
  have hz : (s.heap.push o).objs.size = s.heap.objs.size + 1 := Heap.size_push ..
  have he := Heap.get?_push_size (s.heap.push o) (o := { cls := .type "enumerate", data := .fields #[.none, .bool false, .ref s.heap.objs.size, rawInt 0, .none, .none] }) rfl
  rw [hz] at he
  show _ ∧ _
  rw [hz]
  refine ⟨⟨_, he, rfl⟩, h _ he (Heap.get?_push_of_some _ (Heap.get?_push_size _ B.free)) ?_ (fun b u x => Heap.get?_push_of_some _ (Heap.get?_push_of_some _ x))⟩
  rw [Heap.size_push, hz]
def IteA (t : Bool) (K : PySem.W.Frag) (a : Addr) : It :=
  ⟨fun i H => ∃ (xs : List V) (x : V), SqA t K H a xs ∧ xs[i]? = some x, fun i H v H' => ∃ D x, v = .ref D ∧ H D = none ∧ H' = upd H D (.tup [.int (i : Nat), x]) ∧ ∀ xs, SqA t K H a xs → xs[i]? = some x, fun i H => ∃ xs : List V, SqA t K H a xs ∧ xs.length = i⟩
theorem turn_enumA {P : Program} {w : World} {K : PySem.W.Frag} {elts : List Expr} {kk : Nat} {tpos : Pos} (t : Bool) (a e it : Addr) (hea : e ≠ a) (hia : a ≠ it) (hei : e ≠ it) :
    Turn P w K (.Tuple elts kk tpos) (IteA t K a) [e, it] e (fun i h => (∃ old, IsEnum h e it ((i : Nat) : Int) old) ∧ IsItA t h it a i) where
  mem := List.mem_cons_self ..
  obj := fun i h st b hb => by
    obtain ⟨⟨old, he⟩, hi⟩ := st
    obtain ⟨o, vs, ho, hd⟩ := hi.obj
    rcases List.mem_cons.mp hb with rfl | hb
    · exact ⟨_, he, fun v q => nomatch q⟩
    · rw [List.mem_singleton.mp hb]
      exact ⟨o, ho, fun v q => by rw [hd] at q; cases q⟩
  keep := fun i h h' st k => by
    obtain ⟨⟨old, he⟩, hi⟩ := st
    exact ⟨⟨old, k e (by simp) _ he⟩, hi.at fun o q => k it (by simp) o q⟩
  item := by
    intro X eP ew eK hc i pins s σ H E I hf st hg
    subst eP ew eK
    obtain ⟨⟨old, he⟩, hit⟩ := st
    obtain ⟨xs, x, hq, hx⟩ := hg
    obtain ⟨its, rv, p, hlt⟩ := sqA_its I hq
    obtain ⟨u, hu, ru⟩ := rv.get hx
    have hel : e < s.heap.objs.size := Heap.lt_size he
    have hil : it < s.heap.objs.size := by
      obtain ⟨o, _, ho, _⟩ := hit.obj
      exact Heap.lt_size ho
    have hni : i < its.toArray.size := by
      rw [List.size_toArray]
      exact (List.getElem?_eq_some_iff.mp hu).1
    have hh : X.A.in1.handled = none := I.ok.hd hc
    refine wpAny_pyNext_enum_itemC (drawsA t hh it a hia its.toArray) he ⟨hit, p⟩ hni hei (by simp [hei, hea]) fun z h' tk hz ho hst hT hsz hk => ?_
    have ez : z = u := by
      rw [List.getElem?_toArray, hu] at hz
      exact (Option.some.inj hz).symm
    subst ez
    refine ⟨_, rfl, wpAny_letOwnedTupleGo_enum (s := { s with heap := h', toks := tk + 1 }) ho fun h'' he' sb => ?_⟩
    have hT2 : h''.get? s.heap.objs.size = some { cls := .type "tuple", data := .seq #[.int i tk, z] } := (sb.2 _ (Nat.ne_of_gt hel)).trans hT
    have new : ObjOk X.prog X.w (upd H s.heap.objs.size (.tup [.int (i : Nat), x])) h'' s.heap.objs.size (.tup [.int (i : Nat), x]) := ⟨by show 2 ≤ sizeLine; decide, [.int i tk, z], .cons ⟨_, rfl⟩ (.cons ru .nil), ⟨_, hT2, rfl, _, rfl⟩⟩
    have I1 : Inv X pins σ (upd H s.heap.objs.size (.tup [.int (i : Nat), x])) { s with heap := h'', toks := tk + 1 } := by
      refine I.turnedNew (ch := [e, it]) (fun b ob hb q => ?_) hf (Nat.le_refl _) new
      have b1 : b ≠ e := fun y => hb (by simp [y])
      have b2 : b ≠ it := fun y => hb (by simp [y])
      exact (sb.2 b b1).trans (hk b ob b1 b2 q)
    refine ⟨.ref s.heap.objs.size, _, I1, rfl, ⟨_, x, rfl, I.hok.fresh (Nat.le_refl _), rfl, fun ys hy => ?_⟩, ⟨⟨z, ?_⟩, hst.1.at fun o q => (sb.2 it (Ne.symm hei)).trans q⟩, fun b hb => ?_⟩
    · rw [sqA_inj I hy hq]
      exact hx
    · have e1 : ((i + 1 : Nat) : Int) = (i : Int) + 1 := by omega
      rw [e1]
      exact he'
    · have hb' : b < s.heap.objs.size := by
        rcases List.mem_cons.mp hb with z | hb
        · rw [z]; exact hel
        · rw [List.mem_singleton.mp hb]; exact hil
      rw [upd_ne (Nat.ne_of_lt hb')]
      exact (hf b hb).1
  done := by
    intro X eP ew eK hc i pins s σ H E I hf st hg
    subst eP ew eK
    obtain ⟨⟨old, he⟩, hit⟩ := st
    obtain ⟨xs, hq, hx⟩ := hg
    obtain ⟨its, rv, p, hlt⟩ := sqA_its I hq
    obtain ⟨f0, f1, f2, f3, f4, f5⟩ := hf it (by simp)
    have hn : its.toArray.size = i := by
      rw [List.size_toArray, ← hx]
      exact rv.length.symm
    have hh : X.A.in1.handled = none := I.ok.hd hc
    subst hn
    refine wpAny_pyNext_enum_endD (drawsA t hh it a hia its.toArray) he ⟨hit, p⟩ fun h' eb => ⟨rfl, ?_⟩
    exact I.turned (t' := s.toks) (fun b o hb q => eb b o hb q) f0 f1 f3 f4 f5
  self := fun A i s Q E st h => by
    obtain ⟨⟨_, he⟩, _⟩ := st
    exact wpAny_pyIter_enum he h
def iEnumA (t : Bool) (K : PySem.W.Frag) (ta : TA) : TI := fun σ H R => ta σ H fun vs H1 => ∃ a xs, vs = [.ref a] ∧ SqA t K H1 a xs ∧ R (IteA t K a) H1
theorem pi_enumA {X : Cx} {x : Expr} {ta : TA} {p pos tpos : Pos} {elts : List Expr} {kk : Nat} (t : Bool) (hg : Gl X "enumerate") (hm : X.mg "enumerate" = none) (ha : PA X [x] ta) (hs : starEach [x] X.env = [(false, eval x X.env)] := by rfl) :
    PI X (.Tuple elts kk tpos) (.Call (.Name "enumerate" p) [x] [] pos) (iEnumA t X.K ta) := by
  refine ⟨fun pins s σ H R I h => ?_⟩
  refine Call_ (ld_blt I hg hm boot_enumerate (PyProof.Rows.callWith_type1 (thn (ha.run pos pins s σ H _ I h) fun us s1 ⟨vs, H1, I1, r1, q1⟩ => ?_) hs rfl))
  obtain ⟨a, xs, rfl, hq, q⟩ := q1
  obtain ⟨its, rv, p', hlt⟩ := sqA_its I1 hq
  cases r1 with
  | cons r rr =>
    cases rr
    cases r
    refine call_enumB (beginsA t a its.toArray) p' fun h' he ho hsz hk => wpAny_pyIter_enum he ?_
    have I2 : Inv X pins σ H1 { s1 with heap := h' } := I1.kept (t' := s1.toks) hk
    refine ⟨s1.heap.objs.size + 1, [s1.heap.objs.size + 1, s1.heap.objs.size], _, _, H1, rfl, I2, turn_enumA t a (s1.heap.objs.size + 1) s1.heap.objs.size (by walk_at "ao") (by walk_at "ao") (by walk_at "ao"), ⟨⟨.none, he⟩, itObj_is ho⟩, fun b hb => ?_, q⟩
    have hle : s1.heap.objs.size ≤ b := by
      rcases List.mem_cons.mp hb with z | hb
      · rw [z]; exact Nat.le_add_right _ _
      · rw [List.mem_singleton.mp hb]; exact Nat.le_refl _
    exact I1.fpOk hle (I1.hok.fresh hle)
theorem walk_enumA {t : Bool} {K : PySem.W.Frag} {a : Addr} {xs : List V} : Walk (IteA t K a) xs.length (fun H => SqA t K H a xs) (YPair (fun i => some (.int (i : Nat))) (fun i => xs[i]?)) := by
  refine ⟨fun i H hi h => ⟨xs, xs[i], h, by simp [hi]⟩, fun H h => ⟨xs, h, rfl⟩, fun i H v H' hi h y => ?_⟩
  obtain ⟨D, x, rfl, hD, rfl, hx⟩ := y
  exact ⟨D, _, x, rfl, hD, rfl, rfl, hx xs h⟩
/-! ### zip of two, each a list or a tuple -/
def ItzA (t u : Bool) (K : PySem.W.Frag) (a b : Addr) : It :=
  ⟨fun i H => ∃ (xs ys : List V) (x y : V), SqA t K H a xs ∧ SqA u K H b ys ∧ xs[i]? = some x ∧ ys[i]? = some y,
    fun i H v H' => ∃ D x y, v = .ref D ∧ H D = none ∧ H' = upd H D (.tup [x, y]) ∧ (∀ xs, SqA t K H a xs → xs[i]? = some x) ∧ ∀ ys, SqA u K H b ys → ys[i]? = some y,
    fun i H => ∃ xs ys : List V, SqA t K H a xs ∧ SqA u K H b ys ∧ xs.length = i ∧ ys.length = i⟩
theorem sepA {z TI TO i1 i2 a b : Addr} (h1 : a < i1) (h2 : b < i1) (e2 : i2 = i1 + 1) (e3 : TI = i1 + 2) (e4 : TO = i1 + 3) (e5 : z = i1 + 4) : ZipSep2 z TI TO i1 i2 [i1, a] [i2, b] := by
  subst e2 e3 e4 e5
  constructor <;> (try simp only [List.mem_cons, List.not_mem_nil, or_false, not_or]) <;> first | exact ⟨by walk_at "ao", by walk_at "ao"⟩ | walk_at "ao" | simp
theorem turn_zipA {P : Program} {w : World} {K : PySem.W.Frag} {elts : List Expr} {kk : Nat} {tpos : Pos} (t u : Bool) {a b i1 : Addr} (h1 : a < i1) (h2 : b < i1) :
    Turn P w K (.Tuple elts kk tpos) (ItzA t u K a b) [i1 + 4, i1 + 2, i1 + 3, i1, i1 + 1] (i1 + 4) (fun i h => IsZip h (i1 + 4) (i1 + 2) (i1 + 3) .none ∧ IsTupOf2 h (i1 + 2) (.ref i1) (.ref (i1 + 1)) ∧ (∃ x y, IsTupOf2 h (i1 + 3) x y) ∧ IsItA t h i1 a i ∧ IsItA u h (i1 + 1) b i) where
  mem := List.mem_cons_self ..
  obj := fun i h st c hc => by
    obtain ⟨hz, hI, ⟨x, y, hO⟩, g1, g2⟩ := st
    obtain ⟨o1, v1, e1, d1⟩ := g1.obj
    obtain ⟨o2, v2, e2, d2⟩ := g2.obj
    simp only [List.mem_cons, List.not_mem_nil, or_false] at hc
    rcases hc with rfl | rfl | rfl | rfl | rfl
    · exact ⟨_, hz, fun v q => nomatch q⟩
    · exact ⟨_, hI, fun v q => nomatch q⟩
    · exact ⟨_, hO, fun v q => nomatch q⟩
    · exact ⟨o1, e1, fun v q => by rw [d1] at q; cases q⟩
    · exact ⟨o2, e2, fun v q => by rw [d2] at q; cases q⟩
  keep := fun i h h' st k => by
    obtain ⟨hz, hI, ⟨x, y, hO⟩, g1, g2⟩ := st
    exact ⟨k _ (by simp) _ hz, k _ (by simp) _ hI, ⟨x, y, k _ (by simp) _ hO⟩, g1.at fun o q => k _ (by simp) o q, g2.at fun o q => k _ (by simp) o q⟩
  item := by
    intro X eP ew eK hc i pins s σ H E I hf st hg
    subst eP ew eK
    obtain ⟨hz, hI, ⟨x0, y0, hO⟩, g1, g2⟩ := st
    obtain ⟨xs, ys, x, y, qx, qy, hx, hy⟩ := hg
    obtain ⟨its, rv, p, _⟩ := sqA_its I qx
    obtain ⟨its2, rv2, p2, _⟩ := sqA_its I qy
    obtain ⟨v, hv, ru⟩ := rv.get hx
    obtain ⟨v2, hv2, ru2⟩ := rv2.get hy
    have hzl : i1 + 4 < s.heap.objs.size := Heap.lt_size hz
    have n1 : i < its.toArray.size := by
      rw [List.size_toArray]
      exact (List.getElem?_eq_some_iff.mp hv).1
    have n2 : i < its2.toArray.size := by
      rw [List.size_toArray]
      exact (List.getElem?_eq_some_iff.mp hv2).1
    have hh : X.A.in1.handled = none := I.ok.hd hc
    refine wpAny_pyNext_zipD2_item (sepA h1 h2 rfl rfl rfl rfl) (drawsA t hh i1 a (by walk_at "ao") its.toArray) (drawsA u hh (i1 + 1) b (by walk_at "ao") its2.toArray) hz hI hO ⟨g1, p⟩ ⟨g2, p2⟩ n1 n2 fun z1 z2 h' tk w1 w2 hz' hO' st1 st2 hT hsz hk => ?_
    have ez : z1 = v := by
      rw [List.getElem?_toArray, hv] at w1
      exact (Option.some.inj w1).symm
    have ez2 : z2 = v2 := by
      rw [List.getElem?_toArray, hv2] at w2
      exact (Option.some.inj w2).symm
    subst ez ez2
    refine ⟨_, rfl, wpAny_letOwnedTupleGo_zip (s := { s with heap := h', toks := tk }) hz' fun h'' z'' sb => ?_⟩
    have hT2 : h''.get? s.heap.objs.size = some { cls := .type "tuple", data := .seq #[z1, z2] } := (sb.2 _ (Nat.ne_of_gt hzl)).trans hT
    have new : ObjOk X.prog X.w (upd H s.heap.objs.size (.tup [x, y])) h'' s.heap.objs.size (.tup [x, y]) := ⟨by show 2 ≤ sizeLine; decide, [z1, z2], .cons ru (.cons ru2 .nil), ⟨_, hT2, rfl, _, rfl⟩⟩
    have I1 : Inv X pins σ (upd H s.heap.objs.size (.tup [x, y])) { s with heap := h'', toks := tk } := by
      refine I.turnedNew (ch := [i1 + 4, i1 + 2, i1 + 3, i1, i1 + 1]) (fun c o hb q => ?_) hf (Nat.le_refl _) new
      simp only [List.mem_cons, List.not_mem_nil, or_false, not_or] at hb
      exact (sb.2 c hb.1).trans (hk c o hb.1 hb.2.2.1 hb.2.2.2.1 hb.2.2.2.2 q)
    have ne : ∀ {c : Addr}, c < i1 + 4 → h''.get? c = h'.get? c := fun {c} l => sb.2 c (by walk_at "ao")
    refine ⟨.ref s.heap.objs.size, _, I1, rfl, ⟨_, x, y, rfl, I.hok.fresh (Nat.le_refl _), rfl, fun l hl => ?_, fun l hl => ?_⟩, ⟨z'', ?_, ⟨z1, z2, ?_⟩, st1.1.at fun o q => ?_, st2.1.at fun o q => ?_⟩, fun c hcm => ?_⟩
    · rw [sqA_inj I hl qx]
      exact hx
    · rw [sqA_inj I hl qy]
      exact hy
    · exact (ne (by walk_at "ao")).trans (hk _ _ (by walk_at "ao") (by walk_at "ao") (by walk_at "ao") (by walk_at "ao") hI)
    · exact (ne (by walk_at "ao")).trans hO'
    · exact (ne (by walk_at "ao")).trans q
    · exact (ne (by walk_at "ao")).trans q
    · have hlt : c < s.heap.objs.size := by
        simp only [List.mem_cons, List.not_mem_nil, or_false] at hcm
        clear I1 new hT2 hT
        rcases hcm with z | z | z | z | z <;> rw [z]
        · exact hzl
        all_goals exact Nat.lt_of_le_of_lt (by first | exact Nat.le_add_right _ _ | exact Nat.add_le_add_left (by decide) _) hzl
      rw [upd_ne (Nat.ne_of_lt hlt)]
      exact (hf c hcm).1
  done := by
    intro X eP ew eK hc i pins s σ H E I hf st hg
    subst eP ew eK
    obtain ⟨hz, hI, ⟨x0, y0, hO⟩, g1, g2⟩ := st
    obtain ⟨xs, ys, qx, qy, lx, ly⟩ := hg
    obtain ⟨its, rv, p, _⟩ := sqA_its I qx
    obtain ⟨its2, rv2, p2, _⟩ := sqA_its I qy
    have n1 : i = its.toArray.size := by
      rw [List.size_toArray, ← lx]
      exact rv.length
    have n2 : i = its2.toArray.size := by
      rw [List.size_toArray, ← ly]
      exact rv2.length
    have hh : X.A.in1.handled = none := I.ok.hd hc
    refine wpAny_pyNext_zipD2_end (sepA h1 h2 rfl rfl rfl rfl) (drawsA t hh i1 a (by walk_at "ao") its.toArray) (drawsA u hh (i1 + 1) b (by walk_at "ao") its2.toArray) hz hI hO ⟨g1, p⟩ ⟨g2, p2⟩ (by walk_at "ao") (by walk_at "ao") (.inl n1) fun h' tk hk => ⟨rfl, ?_⟩
    refine I.turnedL (ch := [i1 + 4, i1 + 2, i1 + 3, i1, i1 + 1]) (fun c o hb q => ?_) hf
    simp only [List.mem_cons, List.not_mem_nil, or_false, not_or] at hb
    exact hk c o hb.1 hb.2.2.1 hb.2.2.2.1 hb.2.2.2.2 q
  self := fun A i s Q E st h => wpAny_pyIter_zip st.1 h
def iZipB (t u : Bool) (K : PySem.W.Frag) (ta : TA) : TI := fun σ H R => ta σ H fun vs H1 => ∃ a b xs ys, vs = [.ref a, .ref b] ∧ SqA t K H1 a xs ∧ SqA u K H1 b ys ∧ R (ItzA t u K a b) H1
theorem pi_zipB {X : Cx} {x x2 : Expr} {ta : TA} {p pos tpos : Pos} {elts : List Expr} {kk : Nat} (t u : Bool) (hg : Gl X "zip") (hm : X.mg "zip" = none) (ha : PA X [x, x2] ta)
    (hs : starEach [x, x2] X.env = (false, eval x X.env) :: starEach [x2] X.env := by rfl) (hpl : (backTo pos (starEach [x2] X.env)).any (·.1) = false := by rfl) : PI X (.Tuple elts kk tpos) (.Call (.Name "zip" p) [x, x2] [] pos) (iZipB t u X.K ta) := by
  refine ⟨fun pins s σ H R I h => ?_⟩
  refine Call_ (ld_blt I hg hm PyProof.Rows.boot_zip (PyProof.Rows.callWith_type1 (thn (ha.run pos pins s σ H _ I h) fun us s1 ⟨vs, H1, I1, r1, q1⟩ => ?_) hs hpl))
  obtain ⟨a, b, xs, ys, rfl, qx, qy, q⟩ := q1
  obtain ⟨its, rv, p1, l1⟩ := sqA_its I1 qx
  obtain ⟨its2, rv2, p2, l2⟩ := sqA_its I1 qy
  cases r1 with
  | cons r rr =>
    cases rr with
    | cons r' rr =>
      cases rr
      cases r
      cases r'
      refine zip_begins2 (beginsA t a its.toArray) (beginsA u b its2.toArray) p1 p2 fun h' hz hI hO k1 k2 hsz hk => wpAny_pyIter_zip hz ?_
      have I2 : Inv X pins σ H1 { s1 with heap := h' } := I1.kept (t' := s1.toks) hk
      refine ⟨s1.heap.objs.size + 4, _, _, _, H1, rfl, I2, turn_zipA t u l1 l2, ⟨hz, hI, ⟨_, _, hO⟩, itObj_is k1, itObj_is k2⟩, fun c hcm => ?_, q⟩
      have hle : s1.heap.objs.size ≤ c := by
        simp only [List.mem_cons, List.not_mem_nil, or_false] at hcm
        walk_at "ao"
      exact I1.fpOk hle (I1.hok.fresh hle)
theorem walk_zipB {t u : Bool} {K : PySem.W.Frag} {a b : Addr} {xs ys : List V} (e : xs.length = ys.length) : Walk (ItzA t u K a b) xs.length (fun H => SqA t K H a xs ∧ SqA u K H b ys) (YPair (fun i => xs[i]?) (fun i => ys[i]?)) := by
  refine ⟨fun i H hi h => ⟨xs, ys, xs[i], ys[i], h.1, h.2, by simp [hi], by simp [e ▸ hi]⟩, fun H h => ⟨xs, ys, h.1, h.2, rfl, e.symm⟩, fun i H v H' hi h y => ?_⟩
  obtain ⟨D, x, y, rfl, hD, rfl, hx, hy⟩ := y
  exact ⟨D, x, y, rfl, hD, rfl, hx xs h.1, hy ys h.2⟩
/-! ### comprehensions whose turns only bring new things: turn i gives u i, or nothing -/
theorem same_mut {H G : Hp} {D : Addr} {o : HO} (h : Same H G) (e : H D = none) : Same H (upd G D o) := fun b u hb => by
  rw [upd_ne (ne_of_none hb e)]
  exact h b u hb
theorem range_filterMap (u : Nat → Option V) (i : Nat) : (List.range (i + 1)).filterMap u = (List.range i).filterMap u ++ (u i).toList := by
  rw [List.range_succ, List.filterMap_append]
  congr 1
theorem lcw_gen {J : It} {n : Nat} {G : Hp → Prop} {Y : Nat → Hp → V → Hp → Prop} (w : Walk J n G Y) {g : TG} {tt : TT} {te : TE} {vs : List Nat} {σ : L2.St} {H : Hp} {Q : VK} (u : Nat → Option V) (hn : n ≤ 1000) (hG : ∀ H', Same H H' → G H')
    (hs : ∀ (i : Nat) (x : V) (G1 G2 : Hp) (Nx : Hp → Prop) (Q' : VK), i < n → Same H G1 → Y i G1 x G2 → (∀ y H4, u i = some y → Same G1 H4 → Q' y H4) → (u i = none → ∀ H3, Same G1 H3 → Nx H3) →
      g x (wipe σ vs) G2 fun σ2 H2 => wipe σ2 vs = wipe σ vs ∧ tt σ2 H2 fun b H3 => if b = true then te σ2 H3 Q' else Nx H3)
    (hd : ∀ D G', Same H G' → H D = none → G' D = some (.lst ((List.range n).filterMap u)) → Q (.ref D) G') : LcW J g tt te vs σ H Q := by
  have ll : ∀ i, ((List.range i).filterMap u).length ≤ i := fun i => by
    have e := List.length_filterMap_le u (List.range i)
    rw [List.length_range] at e
    exact e
  refine lcw_it w (fun D i G' => Same H G' ∧ G' D = some (.lst ((List.range i).filterMap u))) (fun D hD => ⟨same_nw hD, upd_same⟩) (fun D i G' _ h => hG G' h.1) (fun D i x G1 G2 hD hi hP hy => ?_) fun D G' hD hP => hd D G' hP.1 hD hP.2
  refine hs i x G1 G2 _ _ hi hP.1 hy (fun y H4 hu h4 => ?_) fun hu H3 h3 => ?_
  · refine ⟨_, h4 D _ hP.2, ?_, same_mut (hP.1.trans h4) hD, ?_⟩
    · have e1 := ll i
      have e2 := sizeLine_eq
      omega
    · rw [upd_same, range_filterMap, hu, Option.toList_some]
  · refine ⟨hP.1.trans h3, ?_⟩
    rw [h3 D _ hP.2, range_filterMap, hu, Option.toList_none, List.append_nil]
end XX

set_option maxRecDepth 100000
set_option maxHeartbeats 4000000
namespace XX
open PySem PySem.Spec PyProof.Rows L2
/-! ### list(text) -/
def rListStr : List V → Hp → VK → Prop := fun xs H Q => ∃ z : Str, xs = [.str z] ∧ z.length ≤ sizeLine ∧ ∀ l, H l = none → Q (.ref l) (upd H l (.lst (z.cps.toList.map fun c => V.str ⟨#[c]⟩)))
end XX

set_option maxRecDepth 100000
set_option maxHeartbeats 4000000
namespace XX
open PySem PySem.Spec PyProof.Rows L2
/-! ### data, or an empty dict -/
def DpE (K : PySem.W.Frag) (H : Hp) (v : V) (d : PyData) : Prop := Dp K H v d ∨ (d = .dict [] ∧ ∃ a, v = .ref a ∧ H a = some (.dK []))
theorem ty_dpE {K : PySem.W.Frag} {H : Hp} {v : V} {d : PyData} (h : DpE K H v d) : TyX K H v (.type (tyOf d)) := by
  rcases h with h | ⟨rfl, a, rfl, h⟩
  · exact ty_dp h
  · exact .base (.dK h)
def rIsE2 (T U : String) (K : PySem.W.Frag) : List V → Hp → VK → Prop := fun xs H Q => ∃ (x : V) (tp : Addr) (d : PyData), xs = [x, .ref tp] ∧ H tp = some (.tup [.ty T, .ty U]) ∧ DpE K H x d ∧ Q (.bl (isTy (tyOf d) T || isTy (tyOf d) U)) H
theorem call_isE2 {X : Cx} {T U : String} (hT : knownTy T) (hU : knownTy U) : CallR X (.builtin "isinstance") (rIsE2 T U X.K) := CallR.imp call_isiT fun xs H Q ⟨x, tp, d, e, ht, h, q⟩ => ⟨x, tp, _, _, [.type T, .type U], _, e, ht, .cons (.ty _) (.cons (.ty _) .nil), ty_dpE h, kit_is2 d hT hU, q⟩
/-! ### a new instance of an own class, by keywords, where the call may raise at the slots -/
def tMakeS (C : Addr) (n m : Nat) (sp : Sp) (gV : List V → List V → List V) (E : L2.St → XK) (t tk : TA) : TE := fun σ H Q => t σ H fun vs H1 => tk σ H1 fun zs H2 => vs.length = n ∧ zs.length = m ∧
  ∀ x dx, H2 x = none → H2 dx = none → dx ≠ x → sp (gV (.ref x :: vs) zs) (upd (upd H2 dx (.own x)) x (.ins C dx [])) (fun v H3 => v = .non ∧ Q (.ref x) H3) (E σ)
section
variable {X : Cx} {CX : CXT} {k n : Nat} {f C : Addr} {fd : FuncData} {ps ks : List Str} {sp : Sp} {E : L2.St → XK} {x : Str} {p pos : Pos} {e : Expr} {es : List Expr} {kws : List Keyword} {t tk : TA} {g : List Value → List Value → List Value} {gV : List V → List V → List V}
theorem run_makeS {pins : List (Addr × Obj)} {σ : L2.St} {H : Hp} {s : Shared} {Q : VK} {us ws : List Value} {vs zs : List V} (M : Mk X.K C f) (F : FnOk X.prog X.w X.K X.mg X.base CX k f fd ps sp) (hr : Room (k + 1) X.A) (hb : KBn X.K fd ps (n + 1) ks g gV)
    (hx : PassesAt CX X σ (E σ)) (I : Inv X pins σ H s) (r : Vals vs us) (rz : Vals zs ws) (l1 : vs.length = n) (l2 : zs.length = ks.length)
    (h : ∀ x dx, H x = none → H dx = none → dx ≠ x → sp (gV (.ref x :: vs) zs) (upd (upd H dx (.own x)) x (.ins C dx [])) (fun v H2 => v = .non ∧ Q (.ref x) H2) (E σ))
    (hfr : ∀ (pins : List (Addr × Obj)) (s : Shared) (H' : Hp) (e : Value) (s' : Shared), Inv X pins σ H' s → CX X.stack H' s (E σ) e s' → X.xe e s') :
    wpAny (model X.prog X.w) X.A (call (.ref C) us (ks.zip ws)) (EP X pins σ Q) X.xe s := by
  have fr : ∀ {b : Nat}, s.heap.objs.size ≤ b → H b = none := fun hle => I.hok.fresh hle
  have hq := h (s.heap.objs.size + 1) s.heap.objs.size (fr (Nat.le_succ _)) (fr (Nat.le_refl _)) (Nat.ne_of_lt (Nat.lt_succ_self _))
  have I2 := Inv.made (C := C) I
  have r2 := hb.rel (Paired.cons (F := RelV) (show RelV (.ref (s.heap.objs.size + 1)) (Value.ref (s.heap.objs.size + 1)) from rfl) r) rz
  have lu : (Value.ref (s.heap.objs.size + 1) :: us).length = n + 1 := congrArg Nat.succ (r.length.symm.trans l1)
  have to := hb.to _ _ ws I2.kIn lu (rz.length.symm.trans l2)
  have run := F.run _ X.stack _ _ ⟨Value.ref (s.heap.objs.size + 1) :: us, ks.zip ws⟩ _ _ _ (E σ) (hr.make C us (ks.zip ws)) (I2.env0.make C us (ks.zip ws)) to r2 hq
  refine wpAny_call (make_map (f := f) I.kIn M.makes M.init (beq_iff_eq.mp M.fn) (codeAny_mono run fun rr s' z => ?_))
  match rr, z with
  | .error er, z => exact hfr pins _ _ er s' I2 z
  | .ok (.ret u), z =>
    obtain ⟨v, H', I3, rv, ev, q3⟩ := I2.after z
    subst ev
    exact ⟨rv, ⟨.ref (s.heap.objs.size + 1), H', I3, rfl, q3⟩⟩
  | .ok .next, z => exact False.elim z
  | .ok .brk, z => exact False.elim z
  | .ok .cont, z => exact False.elim z
theorem pe_makeS (M : Mk X.K C f) (F : FnOk X.prog X.w X.K X.mg X.base CX k f fd ps sp) (hr : Room (k + 1) X.A) (hg : Gl X x) (hm : X.mg x = some (.ref C)) (hb : KBn X.K fd ps (n + 1) ks g gV) (hx : ∀ σ, PassesAt CX X σ (E σ)) (ha : PA X (e :: es) t) (hkw : PK X kws tk)
    (h1 : (backToKw pos (keywordEach kws X.env)).all (·.1.isSome) = true := by rfl) (h2 : (backToKw pos (keywordEach kws X.env)).filterMap (·.1) = ks := by rfl) (h3 : (x == ("__debug__" : Str)) = false := by decide)
    (h4 : starEach (e :: es) X.env = (false, eval e X.env) :: starEach es X.env := by rfl) (h5 : ((backTo pos (starEach (e :: es) X.env)).any (·.1) || (backToKw pos (keywordEach kws X.env)).any (·.1.isNone)) = false := by rfl) :
    PE X (.Call (.Name x p) (e :: es) kws pos) (tMakeS C n ks.length sp gV E t tk) := by
  refine ⟨fun pins s σ H Q I h => wpAny_Call_Name_kw (ld_glob I hg hm ?_ h3)⟩
  refine PySem.W.callWith_KW (h₀ := X.base) I.ok.mod.kin M.kp h1 (thn (ha.run pos pins s σ H _ I h) fun us s1 ⟨vs, H1, I1, r, q⟩ => ?_) h5 h4
  refine thn (hkw.run pos pins s1 σ H1 _ I1 q) fun ws s2 ⟨zs, H2, I2, rz, l1, l2, q2⟩ => ⟨I2.kIn, ?_⟩
  rw [h2]
  exact run_makeS M F hr hb (hx σ) I2 r rz l1 l2 q2 fun pins s H' er s' I z => hx σ pins H' s er s' I z
end
end XX

set_option maxRecDepth 100000
set_option maxHeartbeats 4000000
namespace XX
open PySem PySem.Spec PyProof.Rows L2
/-! ### len(set(..)) of a tuple of texts -/
/-- what is in the set behind the first i texts, and how many -/
def metS (xs : List Str) : Nat → (Str → Bool) × Nat
  | 0 => (fun _ => false, 0)
  | i + 1 => ((fun k => (metS xs i).1 k || decide (k = xs.getD i Str.empty)), if (metS xs i).1 (xs.getD i Str.empty) then (metS xs i).2 else (metS xs i).2 + 1)
section
variable {prog : Program} {w : World} {A : Around} {R : Result → Shared → Prop} {I : Addr} {fp wr : List Addr} {G : Array GenState → Array GenState → Prop} {n : Nat} {P : Nat → Value → Prop} {St : Nat → Shared → Prop}
end
section
variable {prog : Program} {w : World} {A : Around} {E : Value → Shared → Prop} {s : Shared}
end
end XX

set_option maxRecDepth 100000
set_option maxHeartbeats 4000000
namespace XX
open PySem PySem.Spec PyProof.Rows L2
def tLenSetS (K : PySem.W.Frag) (ta : TE) : TE := fun σ H Q => ta σ H fun x H1 => ∃ (l : Addr) (xs : List Str), x = .ref l ∧ SqT K H1 l (xs.map V.str) ∧ xs.length ≤ 1000 ∧ Q (.int ((metS xs xs.length).2 : Nat)) H1
end XX
namespace XX
open PySem PySem.Spec PyProof.Rows L2
/-- len of a list or tuple, within a comprehension -/
def rLenK (K : PySem.W.Frag) : List V → Hp → VK → Prop := fun xs H Q => ∃ (p : Addr) (ys : List V), xs = [.ref p] ∧ (SqL K H p ys ∨ SqT K H p ys) ∧ Q (.int ys.length) H
/-! ### repr of data, an empty dict too -/
structure Rp (d : PyData) : Prop where
  sh : d.showable = true
  dp : d.depth ≤ 64
  ln : d.shown.length ≤ sizeLine
def rReprE (K : PySem.W.Frag) : List V → Hp → VK → Prop := fun xs H Q => ∃ (v : V) (d : PyData), xs = [v] ∧ DpE K H v d ∧ Rp d ∧ Q (.str d.shown) H
mutual
theorem dp_noDict {K : PySem.W.Frag} {H : Hp} : ∀ (d : PyData) (v : V), Dp K H v d → d.hasDict = false
  | .none, _, _ => rfl
  | .bool _, _, _ => rfl
  | .int _, _, _ => rfl
  | .str _, _, _ => rfl
  | .list ds, _, h => by
    cases h with
    | lst _ ha =>
      rw [PyData.hasDict]
      exact dps_noDict ds _ ha
  | .tuple ds, _, h => by
    cases h with
    | tup _ ha =>
      rw [PyData.hasDict]
      exact dps_noDict ds _ ha
  | .dict _, _, h => nomatch h
theorem dps_noDict {K : PySem.W.Frag} {H : Hp} : ∀ (ds : List PyData) (vs : List V), DpAll K H vs ds → PyData.hasDictAll ds = false
  | [], _, _ => rfl
  | d :: ds, _, h => by
    cases h with
    | cons h1 h2 =>
      rw [PyData.hasDictAll, dp_noDict d _ h1, dps_noDict ds _ h2]
      rfl
end
theorem call_reprE {X : Cx} (hg : X.A.guards = some []) (hu : X.A.units + 80 < cLine) : CallR X (.builtin "repr") (rReprE X.K) := by
  intro pins s σ H xs us Q I r h
  obtain ⟨v, d, rfl, hd, hp, q⟩ := h
  rcases hd with hd | ⟨rfl, a, rfl, ha⟩
  · exact call_reprD hg hu pins s σ H [v] us Q I r ⟨v, d, rfl, hd, hp.sh, dp_noDict d v hd, hp.dp, hp.ln, q⟩
  · obtain ⟨u, rfl, ru⟩ := vals1 r
    cases ru
    obtain ⟨_, hm, vs, kv, hdict⟩ := dk_of I.hok ha
    cases kv
    obtain ⟨o, es, ep, ho, hc, hd2, _, hps, _⟩ := hdict
    have e0 : es.toList = [] := by
      generalize es.toList = l at hps
      cases hps
      rfl
    have rd : Reads s.heap (.ref a) (.dict []) (a :: [] ++ []) := .dict ho hc.1 hd2 (by rw [e0]; exact .nil) (by rw [e0]; exact .nil)
    refine repr_of_reads' rd hp.sh (fun _ hin => ?_) hg (by have := hp.dp; omega) (fun _ _ e => e) (fun h' u tk hk => ⟨.str _, H, I.kept (t' := tk) hk, ⟨_, rfl⟩, q⟩) hp.ln
    have e1 : sysModules = a := by simpa using hin
    rw [e1] at hm
    simp at hm
theorem call_reprEK {X : Cx} (K : PySem.W.Frag) (e : X.K = K) (hg : X.A.guards = some []) (hu : X.A.units + 80 < cLine) : CallR X (.builtin "repr") (rReprE K) := by
  subst e
  exact call_reprE hg hu
end XX

set_option maxRecDepth 100000
set_option maxHeartbeats 4000000
namespace XX
open PySem PySem.Spec PyProof.Rows L2
/-! ### small data can be shown -/
theorem int_len : ∀ i : Fin 1011, (PyData.int ((i.val : Int) - 10)).shown.length ≤ 13 := by decide +kernel
theorem int_show : ∀ i : Fin 1011, (PyData.int ((i.val : Int) - 10)).showable = true := by decide +kernel
theorem int_wt : ∀ i : Fin 1011, (PyData.int ((i.val : Int) - 10)).weight ≤ 11 := by decide +kernel
theorem int_fin {i : Int} (h : sm (.int i) = true) : ∃ j : Fin 1011, i = (j.val : Int) - 10 := by
  rw [sm, Bool.and_eq_true, decide_eq_true_eq, decide_eq_true_eq] at h
  exact ⟨⟨(i + 10).toNat, by omega⟩, by show i = ((i + 10).toNat : Int) - 10; omega⟩
mutual
theorem sm_short : ∀ {d : PyData}, sm d = true → d.intsShort 13 = true
  | .none, _ => rfl
  | .bool _, _ => rfl
  | .int i, h => by
    obtain ⟨j, e⟩ := int_fin h
    rw [e, PyData.intsShort]
    exact decide_eq_true (int_len j)
  | .str _, _ => rfl
  | .list ds, h => by
    rw [PyData.intsShort]
    exact sms_short (sm_lst h).2
  | .tuple ds, h => by
    rw [PyData.intsShort]
    exact sms_short (sm_tup h).2
theorem sms_short : ∀ {ds : List PyData}, sms ds = true → PyData.intsShortAll 13 ds = true
  | [], _ => rfl
  | d :: ds, h => by
    rw [sms, Bool.and_eq_true] at h
    rw [PyData.intsShortAll, sm_short h.1, sms_short h.2]
    rfl
end
mutual
theorem sm_show : ∀ {d : PyData}, sm d = true → d.showable = true
  | .none, _ => rfl
  | .bool _, _ => rfl
  | .int i, h => by
    obtain ⟨j, e⟩ := int_fin h
    rw [e]
    exact int_show j
  | .str _, _ => rfl
  | .list ds, h => by
    rw [PyData.showable]
    exact sms_show (sm_lst h).2
  | .tuple ds, h => by
    rw [PyData.showable]
    exact sms_show (sm_tup h).2
theorem sms_show : ∀ {ds : List PyData}, sms ds = true → PyData.showableAll ds = true
  | [], _ => rfl
  | d :: ds, h => by
    rw [sms, Bool.and_eq_true] at h
    rw [PyData.showableAll, sm_show h.1, sms_show h.2]
    rfl
end
structure Sml (k n : Nat) (d : PyData) : Prop where
  s : sm d = true
  dp : d.depth ≤ k
  wt : d.weight ≤ n
theorem Sml.mono {k n k' n' : Nat} {d : PyData} (h : Sml k n d) (a : k ≤ k') (b : n ≤ n') : Sml k' n' d := ⟨h.s, Nat.le_trans h.dp a, Nat.le_trans h.wt b⟩
theorem Sml.rp {k n : Nat} {d : PyData} (h : Sml k n d) (hk : k ≤ 64) (hn : n ≤ 2 ^ 20) : Rp d := by
  refine ⟨sm_show h.s, Nat.le_trans h.dp hk, ?_⟩
  have lay : PyData.layable0 d = true := by
    unfold PyData.layable0
    rw [sm_lay h.s, decide_eq_true (Nat.le_trans h.dp hk), decide_eq_true (Nat.le_trans h.wt hn)]
    rfl
  have e := shown_le13 lay (sm_short h.s)
  have e2 := sizeLine_eq
  omega
theorem wt_all {n : Nat} : ∀ {ds : List PyData}, (∀ d ∈ ds, d.weight ≤ n) → PyData.weightAll ds ≤ ds.length * (n + 1)
  | [], _ => Nat.zero_le _
  | d :: ds, h => by
    have e1 := wt_all fun e he => h e (List.mem_cons_of_mem d he)
    have e2 := h d (List.mem_cons_self ..)
    rw [PyData.weightAll, List.length_cons, Nat.add_mul, Nat.one_mul]
    omega
theorem dp_all {k : Nat} : ∀ {ds : List PyData}, (∀ d ∈ ds, d.depth ≤ k) → PyData.depthAll ds ≤ k
  | [], _ => Nat.zero_le _
  | d :: ds, h => by
    have e1 := dp_all fun e he => h e (List.mem_cons_of_mem d he)
    have e2 := h d (List.mem_cons_self ..)
    rw [PyData.depthAll]
    omega
theorem Sml.tup {k n m : Nat} {ds : List PyData} (h : ∀ d ∈ ds, Sml k n d) (hl : ds.length ≤ m) (hm : m ≤ 1000) : Sml (k + 1) (m * (n + 1)) (.tuple ds) := by
  refine ⟨?_, ?_, ?_⟩
  · rw [sm, Bool.and_eq_true]
    exact ⟨decide_eq_true (by omega), sms_of fun d hd => (h d hd).s⟩
  · have e := dp_all fun d hd => (h d hd).dp
    show PyData.depthAll ds + 1 ≤ k + 1
    omega
  · have e := wt_all fun d hd => (h d hd).wt
    exact Nat.le_trans e (Nat.mul_le_mul_right _ hl)
theorem Sml.lst {k n m : Nat} {ds : List PyData} (h : ∀ d ∈ ds, Sml k n d) (hl : ds.length ≤ m) (hm : m ≤ 1000) : Sml (k + 1) (m * (n + 1)) (.list ds) := by
  refine ⟨?_, ?_, ?_⟩
  · rw [sm, Bool.and_eq_true]
    exact ⟨decide_eq_true (by omega), sms_of fun d hd => (h d hd).s⟩
  · have e := dp_all fun d hd => (h d hd).dp
    show PyData.depthAll ds + 1 ≤ k + 1
    omega
  · have e := wt_all fun d hd => (h d hd).wt
    exact Nat.le_trans e (Nat.mul_le_mul_right _ hl)
theorem sml_int {i : Int} (h0 : -10 ≤ i) (h1 : i ≤ 1000) : Sml 0 11 (.int i) := by
  have hs : sm (.int i) = true := by
    rw [sm, decide_eq_true h0, decide_eq_true h1]
    rfl
  refine ⟨hs, Nat.le_refl _, ?_⟩
  obtain ⟨j, e⟩ := int_fin hs
  rw [e]
  exact int_wt j
theorem sml_str {z : Str} {n : Nat} (h : z.length ≤ n) (hn : n ≤ 1000) (hc : ∀ c ∈ z.cps.toList, c < 0x110000) : Sml 0 n (.str z) := by
  refine ⟨?_, Nat.le_refl _, h⟩
  rw [sm, Bool.and_eq_true]
  refine ⟨decide_eq_true (by omega), Array.all_eq_true'.mpr fun c m => decide_eq_true (hc c (Array.mem_def.mp m))⟩
end XX

set_option maxRecDepth 100000
set_option maxHeartbeats 4000000
namespace YY
open PySem PySem.Spec PyProof.Rows L2 XX
local macro_rules | `(tactic| walk_at "wp") => `(tactic| simp only [tSeq, tNext, tAsg, tPar, gName, tCB, tCons, tNil, tVar, tC, tOp, tUn, rI, rI0, rU, tLst, tTup, tFor_eq, iRng1, iRng2, iList, iTup, tRet, tRetN, tDrop, tIfS, tTest, tB, tAnd, tOr, tNot, tIf, tAndV, tOrV, tNotV, tCall, tBM, tBM0, rIxL, rIxT, rAppend, tLc_eq, gSub, rSetL, rEq, rNe, rMulS, rIxS, tRevT, gTup, gCons, gNil, wipe, tYes, LcEnd, tDisp, tPairs, tChain, tSl, tPart, tNoPart, rSlT, rSlL, rCatT, rCat, rRep, rIsD, V.ty.injEq, iZipB, tXf, wMA, wAs, rLenK, tLenSetS, rReprE, tVeI, tOst, tErr, tMkO, sFld, tFld, rIsE2, tMakeS, rListStr, tDNotIn, tDGet, rSetD, gSub, iEnumA, rIxD, iStr,
  cxOf_K, cxOf_noxK, L2.start, List.map_cons, List.map_nil, List.length_cons, List.length_nil, Nat.reduceAdd, Nat.reduceSub, List.replicate_succ, List.replicate_zero, List.replicate, List.cons_append, List.nil_append, List.getElem?_cons_zero, List.getElem?_cons_succ, List.set_cons_zero, List.set_cons_succ, List.append_nil,
  Option.some.injEq, V.int.injEq, V.ref.injEq, V.bl.injEq, V.str.injEq, List.cons.injEq, and_true, true_and, exists_eq_left', exists_eq_left, exists_and_left, exists_and_right, exists_const, bool_ite_true, bool_ite_false, dec_ite, ndec_ite, reduceCtorEq, false_or, or_false, false_and, and_false, decide_eq_true_eq, and_assoc, reduceIte, ite_true, ite_false, Int.zero_add])

def topS (i : Nat) : Stmt := PySem.Challenge.pw_partedlanes_k23_texts_read_back_and_refu.main.body.getD i (.Pass ⟨0, 0, 0, 0⟩)
abbrev sNumbers : Stmt := topS 45
abbrev sPool : Stmt := topS 46
abbrev sDraw : Stmt := topS 47
abbrev sPick : Stmt := topS 48
/-- the built-ins that no name of the module hides -/
structure Bl (mg : Str → Option Value) : Prop where
  n_max : mg "max" = none
  n_range : mg "range" = none
  n_len : mg "len" = none
  n_int : mg "int" = none
section
variable {P : Program} {w : World} {K : PySem.W.Frag} {mg : Str → Option Value} {base : Heap}

/-! ### _law_numbers -/
def nums (ns : List Int) : List V := ns.map V.int
def spNumbers (K : PySem.W.Frag) : Sp := fun vs H Q _ => ∃ (cell salt : Int) (a : Addr) (sz : List Int), vs = [.int cell, .int salt, .ref a] ∧ SqL K H a (nums sz) ∧ 0 ≤ salt ∧ salt ≤ 100000 ∧ sz.length ≤ 1000 ∧ (∀ z ∈ sz, 0 < z ∧ z ≤ 1000) ∧
  ∀ (p : Addr) (ns : List Int), H p = none → ns.length = sz.length → (∀ n ∈ ns, 0 ≤ n) → (∀ (i : Nat) n z, ns[i]? = some n → sz[i]? = some z → n < z) → Q (.ref p) (upd H p (.lst (nums ns)))
theorem scNumbers : FnScope ["cell", "salt", "sizes", "whole", "left", "result", "k", "one"] ["cell", "salt", "sizes"] (defScope sNumbers) := ⟨rfl, rfl, rfl, by decide +kernel, rfl, by decide +kernel, by decide +kernel⟩
theorem c_numbers (D : Def K mg "_law_numbers" sNumbers ["cell", "salt", "sizes"]) (T : Bl mg) : FnC P w K mg base CX0 1 "_law_numbers" ["cell", "salt", "sizes"] (spNumbers K) := by
  refine D.ok scNumbers (fun vs H Q E h => ?_) (fun f cdv A outer s H vs Q E hr h => ?_)
  · obtain ⟨cell, salt, a, sz, rfl, _⟩ := h
    rfl
  · obtain ⟨cell, salt, a, sz, rfl, hS, hs0, hs1, hl, hz, k⟩ := h
    have sc := scNumbers
    refine ⟨_, (pss_cons (ps_set (i := 3) sc.nd rfl (Or.inl rfl) (pe_callB (call_max2 rfl) (by rfl) T.n_max (by decide +kernel) (pa_cons (pv 0) (pa_cons (pe_op op_sub (pe_un un_neg pe_int) (pv 0)) pa_nil))))
    (pss_cons (ps_set (i := 4) sc.nd rfl (Or.inl rfl) (pv 3))
    (pss_cons (ps_set (i := 5) sc.nd rfl (Or.inl rfl) (pe_lst pa_nil))
    (pss_cons (ps_for PassesOwn.never rfl (pi_range1 (by rfl) T.n_range (pa_cons (pe_callB call_len_seq (by rfl) T.n_len (by decide +kernel) (pa_cons (pv 2) pa_nil)) pa_nil)) (pg_name (i := 6) sc.nd rfl (Or.inl rfl))
      (pss_one (ps_if (PW.pt (pw_and (pt_cmpR op_ge (pv 3) (pe_op op_pow pe_int pe_int) (nomark _)) (pw_and1 (pt_cmpR op_gt (pv 4) pe_int (nomark _))))) (pss_cons (ps_expr (pe_bm PySem.F.plainAttrs_list PySem.F.slot_list_append PySem.F.type_list_append mt_append (pv 5) (pa_cons (pe_op op_mod (pv 4) (pe_ix ix_list (pv 2) (pv 6) (fun _ _ => rfl))) pa_nil)))
    (pss_one (ps_set (i := 4) sc.nd rfl (Or.inl rfl) (pe_op op_fdiv (pv 4) (pe_ix ix_list (pv 2) (pv 6) (fun _ _ => rfl)))))) (pss_cons (ps_set (i := 7) sc.nd rfl (Or.inl rfl) (pe_op op_mod (pe_op op_pow (pe_op op_add (pe_op op_add (pe_op op_mod (pv 3) pe_int) (pe_op op_mul pe_int (pv 1))) pe_int) pe_int) pe_int))
    (pss_cons (ps_set (i := 7) sc.nd rfl (Or.inl rfl) (pe_op op_mod (pe_op op_mul (pe_op op_add (pv 7) (pe_op op_mul pe_int (pe_op op_add (pv 6) pe_int))) (pe_op op_add (pv 6) pe_int)) pe_int))
    (pss_cons (ps_set (i := 7) sc.nd rfl (Or.inl rfl) (pe_op op_mod (pe_op op_mul (pe_op op_mod (pe_op op_pow (pv 7) pe_int) pe_int) pe_int) pe_int))
    (pss_one (ps_expr (pe_bm PySem.F.plainAttrs_list PySem.F.slot_list_append PySem.F.type_list_append mt_append (pv 5) (pa_cons (pe_op op_mod (pe_op op_fdiv (pv 7) pe_int) (pe_ix ix_list (pv 2) (pv 6) (fun _ _ => rfl))) pa_nil))))))))))
    (pss_one (ps_ret (pv 5))))))), ?_⟩
    walk_at "wp"
    generalize hw : (if -1 - cell > cell then -1 - cell else cell) = whole
    have hw0 : 0 ≤ whole := by
      rw [← hw]
      split <;> omega
    have hne : ∀ {q : Addr} {xs : List V}, SqL K H q xs → ∀ {p : Addr} {o : HO}, H p = none → SqL K (upd H p o) q xs := fun {q xs} h {p o} hp => by
      rcases h with (h | ⟨ob, h⟩) | h
      · exact .inl (.inl (by rw [upd_ne (ne_of_none h hp)]; exact h))
      · exact .inl (.inr ⟨ob, by rw [upd_ne (ne_of_none h hp)]; exact h⟩)
      · exact .inr h
    have hsl : (nums sz).length = sz.length := List.length_map ..
    refine ⟨Nat.zero_le _, fun p hp => ⟨nums sz, Or.inl (hne hS hp), by omega, by rw [hsl]; omega, ?_⟩⟩
    refine loop_it (walk_range (lo := 0)) (fun i σ H' => ∃ (left : Int) (ns : List Int) (u v : Option V), σ = [some (V.int cell), some (V.int salt), some (V.ref a), some (V.int whole), some (V.int left), some (V.ref p), u, v] ∧ H' = upd H p (.lst (nums ns)) ∧ ns.length = i ∧ 0 ≤ left ∧ (∀ n ∈ ns, 0 ≤ n) ∧ ∀ (i : Nat) n z, ns[i]? = some n → sz[i]? = some z → n < z)
      ⟨whole, [], none, none, rfl, rfl, rfl, hw0, fun n h => (nomatch h), fun i n z h => by simp at h⟩ (fun _ _ _ _ _ => True.intro) ?_ ?_
    · rintro i x σ H1 H2 hi ⟨left, ns, u, v, rfl, rfl, hn, hl0, hnn, hlt⟩ ⟨rfl, rfl⟩
      walk_at "wp"
      rw [hsl] at hi
      have hi' : i < sz.length := by omega
      obtain ⟨z, hzi⟩ : ∃ z, sz[i]? = some z := ⟨sz[i], by simp [hi']⟩
      have hzz := hz z (List.mem_of_getElem? hzi)
      have hat : atI (nums sz) (i : Int) = some (V.int z) := atI_nat (by rw [nums, List.getElem?_map, hzi]; rfl)
      have hty : tyV K "list" (V.ref p) (upd H p (.lst (nums ns))) := Or.inl ⟨rfl, _, SqL.of upd_same⟩
      have hS1 : SqL K (upd H p (.lst (nums ns))) a (nums sz) := hne hS hp
      have hsz : (nums ns).length < sizeLine := by
        rw [nums, List.length_map, sizeLine_eq]
        omega
      have ap : ∀ x : Int, 0 ≤ x → x < z → ∃ ns' : List Int, upd (upd H p (.lst (nums ns))) p (.lst (nums ns ++ [V.int x])) = upd H p (.lst (nums ns')) ∧ ns'.length = i + 1 ∧ (∀ n ∈ ns', 0 ≤ n) ∧ ∀ (i : Nat) n z, ns'[i]? = some n → sz[i]? = some z → n < z := fun x h0 h1 => by
        refine ⟨ns ++ [x], ?_, by rw [List.length_append, hn]; rfl, fun n hm => ?_, fun j n y hj hy => ?_⟩
        · rw [upd_upd]
          congr 2
          simp [nums]
        · rcases List.mem_append.mp hm with h | h
          · exact hnn n h
          · rw [List.mem_singleton.mp h]
            exact h0
        · by_cases hji : j < ns.length
          · rw [List.getElem?_append_left hji] at hj
            exact hlt j n y hj hy
          · rw [List.getElem?_append_right (by omega)] at hj
            have e : j - ns.length = 0 := by
              have q := (List.getElem?_eq_some_iff.mp hj).1
              simp at q
              omega
            rw [e] at hj
            have e2 : j = i := by omega
            subst e2
            rw [hzi] at hy
            cases hy
            simp at hj
            omega
      have hcp : CPow 10 18 := ⟨by decide, by decide, by decide⟩
      refine ⟨hcp, ?_⟩
      have hdraw : ∀ m : Int, 0 ≤ m → 0 ≤ m % z ∧ m % z < z := fun m _ => ⟨Int.emod_nonneg _ (by omega), Int.emod_lt_of_pos _ hzz.1⟩
      generalize ha1 : whole % 2147483629 + 7919 * salt + 1 = a1
      have b1 : 0 ≤ a1 ∧ a1 < 10000000000 := by
        have q1 := Int.emod_nonneg whole (show (2147483629 : Int) ≠ 0 by decide)
        have q2 := Int.emod_lt_of_pos whole (show (0 : Int) < 2147483629 by decide)
        omega
      generalize ha2 : a1 ^ Int.toNat 3 % 2147483647 = a2
      have b2 : 0 ≤ a2 ∧ a2 < 2147483647 := by
        rw [← ha2]
        exact ⟨Int.emod_nonneg _ (by decide), Int.emod_lt_of_pos _ (by decide)⟩
      generalize ha3 : (a2 + 104729 * ((i : Int) + 1)) * ((i : Int) + 3) % 2147483629 = a3
      have b3 : 0 ≤ a3 ∧ a3 < 2147483629 := by
        rw [← ha3]
        exact ⟨Int.emod_nonneg _ (by decide), Int.emod_lt_of_pos _ (by decide)⟩
      generalize ha4 : a3 ^ Int.toNat 5 % 2147483647 = a4
      have b4 : 0 ≤ a4 ∧ a4 < 2147483647 := by
        rw [← ha4]
        exact ⟨Int.emod_nonneg _ (by decide), Int.emod_lt_of_pos _ (by decide)⟩
      generalize ha5 : a4 * 48271 % 2147483629 = a5
      have b5 : 0 ≤ a5 ∧ a5 < 2147483629 := by
        rw [← ha5]
        exact ⟨Int.emod_nonneg _ (by decide), Int.emod_lt_of_pos _ (by decide)⟩
      have hpoly : ∀ R : Prop, (∀ x : Int, 0 ≤ x → x < z → (∃ ns' : List Int, upd (upd H p (.lst (nums ns))) p (.lst (nums ns ++ [V.int x])) = upd H p (.lst (nums ns')) ∧ ns'.length = i + 1 ∧ 0 ≤ left ∧ (∀ n ∈ ns', 0 ≤ n) ∧ ∀ (i : Nat) n z, ns'[i]? = some n → sz[i]? = some z → n < z) → R) → R := fun R q => by
        refine q (a5 / 16 % z) (hdraw _ (by omega)).1 (hdraw _ (by omega)).2 ?_
        obtain ⟨ns', e1, e2, e3, e4⟩ := ap (a5 / 16 % z) (hdraw _ (by omega)).1 (hdraw _ (by omega)).2
        exact ⟨ns', e1, e2, hl0, e3, e4⟩
      have c1 : CMul 7919 salt := .inl ⟨by decide, by decide⟩
      have c2 : CPow a1 3 := ⟨by decide, by decide, by omega⟩
      have c3 : CMul 104729 ((i : Int) + 1) := .inl ⟨by decide, by decide⟩
      have c4 : CMul (a2 + 104729 * ((i : Int) + 1)) ((i : Int) + 3) := .inr ⟨by omega, by omega⟩
      have c5 : CPow a3 5 := ⟨by decide, by decide, by omega⟩
      have c6 : CMul a4 48271 := .inr ⟨by decide, by decide⟩
      have c7 : CDiv a5 16 := ⟨by decide, by decide⟩
      obtain ⟨ns', e1, e2, e3, e4⟩ := ap (a5 / 16 % z) (hdraw _ (by omega)).1 (hdraw _ (by omega)).2
      have hls : 0 ≤ left / z := Int.ediv_nonneg hl0 (by omega)
      refine ite2 (fun _ => ite2 (fun hlp => ?_) (fun _ => ?_)) (fun _ => ?_)
      · obtain ⟨ms, f1, f2, f3, f4⟩ := ap (left % z) (hdraw _ hl0).1 (hdraw _ hl0).2
        refine ⟨hty, _, hS1, _, hat, z, rfl, hzz.1, _, upd_same, hsz, _, ?_, _, hat, z, rfl, ⟨hzz.1, by omega⟩, ms, f1, f2, hls, f3, f4⟩
        rw [upd_upd]
        exact hne hS hp
      · exact ⟨by decide, c1, c2, by decide, c3, c4, by decide, c5, by decide, c6, by decide, hty, c7, _, hS1, _, hat, z, rfl, hzz.1, _, upd_same, hsz, ns', e1, e2, hl0, e3, e4⟩
      · exact ⟨by decide, c1, c2, by decide, c3, c4, by decide, c5, by decide, c6, by decide, hty, c7, _, hS1, _, hat, z, rfl, hzz.1, _, upd_same, hsz, ns', e1, e2, hl0, e3, e4⟩
    · rintro σ H1 ⟨left, ns, u, v, rfl, rfl, hn, hl0, hnn, hlt⟩
      walk_at "wp"
      refine k p ns hp ?_ hnn hlt
      rw [hn, hsl]
      omega
end
end YY

set_option maxRecDepth 100000
set_option maxHeartbeats 4000000
namespace YY
open PySem PySem.Spec PyProof.Rows L2 XX
local macro_rules | `(tactic| walk_at "wp") => `(tactic| simp only [tSeq, tNext, tAsg, tPar, gName, tCB, tCons, tNil, tVar, tC, tOp, tUn, rI, rI0, rU, tLst, tTup, tFor_eq, iRng1, iRng2, iList, iTup, tRet, tRetN, tDrop, tIfS, tTest, tB, tAnd, tOr, tNot, tIf, tAndV, tOrV, tNotV, tCall, tBM, tBM0, rIxL, rIxT, rAppend, tLc_eq, gSub, rSetL, rEq, rNe, rMulS, rIxS, tRevT, gTup, gCons, gNil, wipe, tYes, LcEnd, tDisp, tPairs, tChain, tSl, tPart, tNoPart, rSlT, rSlL, rCatT, rCat, rRep, rIsD, V.ty.injEq, iZipB, tXf, wMA, wAs, rLenK, tLenSetS, rReprE, tVeI, tOst, tErr, tMkO, sFld, tFld, rIsE2, tMakeS, rListStr, tDNotIn, tDGet, rSetD, gSub, iEnumA, rIxD, iStr,
  cxOf_K, cxOf_noxK, L2.start, List.map_cons, List.map_nil, List.length_cons, List.length_nil, Nat.reduceAdd, Nat.reduceSub, List.replicate_succ, List.replicate_zero, List.replicate, List.cons_append, List.nil_append, List.getElem?_cons_zero, List.getElem?_cons_succ, List.set_cons_zero, List.set_cons_succ, List.append_nil,
  Option.some.injEq, V.int.injEq, V.ref.injEq, V.bl.injEq, V.str.injEq, List.cons.injEq, and_true, true_and, exists_eq_left', exists_eq_left, exists_and_left, exists_and_right, exists_const, bool_ite_true, bool_ite_false, dec_ite, ndec_ite, reduceCtorEq, false_or, or_false, false_and, and_false, decide_eq_true_eq, and_assoc, reduceIte, ite_true, ite_false, Int.zero_add])

/-- at p stands a pool of draws -/
def Pool (H : Hp) (p : Addr) : Prop := ∃ (l : Addr) (i : Int) (ns : List Int), H p = some (.lst [.ref l, .int i]) ∧ H l = some (.lst (nums ns)) ∧ 0 ≤ i ∧ l ≠ p
/-- only the pool at p has gone on; else new things have come -/
structure Gr (p : Addr) (H H' : Hp) : Prop where
  keep : ∀ b o, b ≠ p → H b = some o → H' b = some o
  pool : Pool H' p
  same : ∀ (l : Addr) (i : Int), H p = some (.lst [.ref l, .int i]) → ∃ j : Int, H' p = some (.lst [.ref l, .int j])
theorem Gr.trans {p : Addr} {H H1 H2 : Hp} (a : Gr p H H1) (b : Gr p H1 H2) : Gr p H H2 := ⟨fun c o h e => b.keep c o h (a.keep c o h e), b.pool, fun l i e => by
  obtain ⟨j, e1⟩ := a.same l i e
  exact b.same l j e1⟩
/-- what was not tracked may change, too -/
theorem Gr.mut {p q : Addr} {H G : Hp} {o : HO} (g : Gr p H G) (h : Pool H p) (e : H q = none) : Gr p H (upd G q o) := by
  obtain ⟨l, i, ns, h1, h2, h3, h4⟩ := h
  obtain ⟨j, g1⟩ := g.same l i h1
  obtain ⟨l', j', ns', p1, p2, p3, p4⟩ := g.pool
  rw [g1] at p1
  cases p1
  exact ⟨fun b u hb hbu => by rw [upd_ne (ne_of_none hbu e)]; exact g.keep b u hb hbu, ⟨l, j, ns, by rw [upd_ne (ne_of_none h1 e)]; exact g1, by rw [upd_ne (ne_of_none h2 e)]; exact g.keep l _ h4 h2, p3, h4⟩, fun l2 i2 e2 => by
    rw [h1] at e2
    cases e2
    exact ⟨j, by rw [upd_ne (ne_of_none h1 e)]; exact g1⟩⟩
theorem Pool.notTup {H : Hp} {p a : Addr} {xs : List V} (h : Pool H p) (e : H a = some (.tup xs)) : a ≠ p := by
  obtain ⟨l, i, ns, h1, _⟩ := h
  exact ne_of e h1 (by intro z; cases z)
theorem Pool.notFrz {H : Hp} {p a : Addr} {o : Obj} {u : HO} (h : Pool H p) (e : H a = some (.frz o u)) : a ≠ p := by
  obtain ⟨l, i, ns, h1, _⟩ := h
  exact ne_of e h1 (by intro z; cases z)
theorem Gr.tup {K : PySem.W.Frag} {p a : Addr} {H H' : Hp} {xs : List V} (g : Gr p H H') (h : Pool H p) (e : SqT K H a xs) : SqT K H' a xs := by
  rcases e with (e | ⟨o, e⟩) | e
  · exact .inl (.inl (g.keep _ _ (h.notTup e) e))
  · exact .inl (.inr ⟨o, g.keep _ _ (h.notFrz e) e⟩)
  · exact .inr e
theorem Gr.lst {K : PySem.W.Frag} {p a : Addr} {H H' : Hp} {xs : List V} (g : Gr p H H') (h : a ≠ p) (e : SqL K H a xs) : SqL K H' a xs := by
  rcases e with (e | ⟨o, e⟩) | e
  · exact .inl (.inl (g.keep _ _ h e))
  · exact .inl (.inr ⟨o, g.keep _ _ h e⟩)
  · exact .inr e
theorem Gr.free {p a : Addr} {H H' : Hp} (g : Gr p H H') (h : Pool H p) (e : H' a = none) : H a = none := by
  cases q : H a with
  | none => rfl
  | some o =>
    by_cases c : a = p
    · subst c
      obtain ⟨l, i, ns, h1, _⟩ := g.pool
      rw [h1] at e
      cases e
    · rw [g.keep a o c q] at e
      cases e
/-- a new thing beside the pool -/
theorem Gr.new {p q : Addr} {H : Hp} {o : HO} (h : Pool H p) (e : H q = none) : Gr p H (upd H q o) := by
  refine ⟨fun b u _ hb => by rw [upd_ne (ne_of_none hb e)]; exact hb, ?_, fun l i h1 => ⟨i, by rw [upd_ne (ne_of_none h1 e)]; exact h1⟩⟩
  obtain ⟨l, i, ns, h1, h2, h3⟩ := h
  exact ⟨l, i, ns, by rw [upd_ne (ne_of_none h1 e)]; exact h1, by rw [upd_ne (ne_of_none h2 e)]; exact h2, h3⟩
theorem Gr.refl {p : Addr} {H : Hp} (h : Pool H p) : Gr p H H := ⟨fun _ _ _ e => e, h, fun l i e => ⟨i, e⟩⟩
theorem Pool.ne_none {H : Hp} {p q : Addr} (h : Pool H p) (e : H q = none) : p ≠ q := by
  obtain ⟨l, i, ns, h1, _⟩ := h
  exact ne_of_none h1 e
theorem sqT_new {K : PySem.W.Frag} {H : Hp} {a q : Addr} {xs : List V} {o : HO} (h : SqT K H a xs) (e : H q = none) : SqT K (upd H q o) a xs := by
  rcases h with (h | ⟨ob, h⟩) | h
  · exact .inl (.inl (by rw [upd_ne (ne_of_none h e)]; exact h))
  · exact .inl (.inr ⟨ob, by rw [upd_ne (ne_of_none h e)]; exact h⟩)
  · exact .inr h
theorem at_of {xs : List V} {z : Int} {j : Nat} {v : V} (e : z = (j : Int)) (h : xs[j]? = some v) : atI xs z = some v := by
  rw [e]
  exact atI_nat h
theorem same_new {H : Hp} {q : Addr} {o : HO} (e : H q = none) : Same H (upd H q o) := fun b u hb => by
  rw [upd_ne (ne_of_none hb e)]
  exact hb
theorem Same.sqT {K : PySem.W.Frag} {H H' : Hp} {a : Addr} {xs : List V} (e : Same H H') (h : SqT K H a xs) : SqT K H' a xs := by
  rcases h with (h | ⟨o, h⟩) | h
  · exact .inl (.inl (e _ _ h))
  · exact .inl (.inr ⟨o, e _ _ h⟩)
  · exact .inr h
section
variable {P : Program} {w : World} {K : PySem.W.Frag} {mg : Str → Option Value} {base : Heap}
/-! ### _law_pool -/
def spPool : Sp := fun vs H Q _ => ∃ cell salt many : Int, vs = [.int cell, .int salt, .int many] ∧ 0 ≤ salt ∧ salt ≤ 100000 ∧ 0 ≤ many ∧ many ≤ 1000 ∧ ∀ p H', Same H H' → H p = none → Pool H' p → Q (.ref p) H'
theorem scPool : FnScope ["cell", "salt", "many"] ["cell", "salt", "many"] (defScope sPool) := ⟨rfl, rfl, rfl, by decide +kernel, rfl, by decide +kernel, by decide +kernel⟩
theorem c_pool (D : Def K mg "_law_pool" sPool ["cell", "salt", "many"]) (T : Bl mg) (cN : FnC P w K mg base CX0 1 "_law_numbers" ["cell", "salt", "sizes"] (spNumbers K)) : FnC P w K mg base CX0 2 "_law_pool" ["cell", "salt", "many"] spPool := by
  refine D.ok scPool (fun vs H Q E h => ?_) (fun f cdv A outer s H vs Q E hr h => ?_)
  · obtain ⟨cell, salt, many, rfl, _⟩ := h
    rfl
  · obtain ⟨cell, salt, many, rfl, h0, h1, h2, h3, k⟩ := h
    refine ⟨_, (pss_one (ps_ret (pe_lst (pa_cons (pe_c cN hr rfl (pa_cons (pv 0) (pa_cons (pv 1) (pa_cons (pe_op op_rep (pe_lst (pa_cons pe_int pa_nil)) (pv 2)) pa_nil)))) (pa_cons pe_int pa_nil))))), ?_⟩
    walk_at "wp"
    refine ⟨by decide, fun p hp => ⟨_, upd_same, by omega, by omega, by simp only [List.length_cons, List.length_nil]; rw [sizeLine_eq]; omega, fun q hq => ?_⟩⟩
    have e : (List.replicate many.toNat [V.int 420]).flatten = nums (List.replicate many.toNat 420) := by
      rw [nums, List.map_replicate]
      induction many.toNat with
      | zero => rfl
      | succ n ih =>
        rw [List.replicate_succ, List.flatten_cons, ih]
        rfl
    rw [e]
    refine ⟨cell, salt, q, List.replicate many.toNat 420, rfl, SqL.of upd_same, h0, h1, by rw [List.length_replicate]; omega, fun z hz => ?_, fun r ns hr2 _ _ _ => ?_⟩
    · rw [List.eq_of_mem_replicate hz]
      decide
    · refine ⟨by decide, fun t ht => ?_⟩
      have s1 : Same H (upd (upd (upd H p (.lst [.int 420])) q (.lst (nums (List.replicate many.toNat 420)))) r (.lst (nums ns))) := (same_new hp).trans ((same_new hq).trans (same_new hr2))
      have ntr : t ≠ r := fun z => by
        rw [z, upd_same] at ht
        cases ht
      exact k t _ (s1.trans (same_new ht)) (s1.free ht) ⟨r, 0, ns, upd_same, by rw [upd_ne ntr.symm, upd_same], Int.le_refl 0, ntr.symm⟩
/-! ### _law_draw -/
def spDraw : Sp := fun vs H Q _ => ∃ (p : Addr) (many : Int), vs = [.ref p, .int many] ∧ Pool H p ∧ 0 < many ∧ ∀ (v : Int) H', 0 ≤ v → v < many → Gr p H H' → Q (.int v) H'
theorem scDraw : FnScope ["pool", "many", "at"] ["pool", "many"] (defScope sDraw) := ⟨rfl, rfl, rfl, by decide +kernel, rfl, by decide +kernel, by decide +kernel⟩
theorem c_draw (D : Def K mg "_law_draw" sDraw ["pool", "many"]) (T : Bl mg) : FnC P w K mg base CX0 1 "_law_draw" ["pool", "many"] spDraw := by
  refine D.ok scDraw (fun vs H Q E h => ?_) (fun f cdv A outer s H vs Q E hr h => ?_)
  · obtain ⟨p, many, rfl, _⟩ := h
    rfl
  · obtain ⟨p, many, rfl, ⟨l, i, ns, h1, h2, h3, hlp⟩, hm, k⟩ := h
    have sc := scDraw
    refine ⟨_, (pss_cons (ps_set (i := 2) sc.nd rfl (Or.inl rfl) (pe_ix ix_list (pv 0) pe_int (fun _ _ => rfl)))
    (pss_cons (ps_asg (pe_op op_add (pv 2) pe_int) (pg_sub (pv 0) pe_int set_list))
    (pss_one (ps_ret (pe_ifExp (pt_cmpR op_lt (pv 2) (pe_callB call_len_seq (by rfl) T.n_len (by decide +kernel) (pa_cons (pe_ix ix_list (pv 0) pe_int (fun _ _ => rfl)) pa_nil)) (nomark _)) (pe_op op_mod (pe_callTy call_int1 (by rfl) T.n_int (by decide +kernel) (pa_cons (pe_ix ix_list (pe_ix ix_list (pv 0) pe_int (fun _ _ => rfl)) (pv 2) (fun _ _ => rfl)) pa_nil)) (pv 1)) pe_int))))), ?_⟩
    walk_at "wp"
    have g : Gr p H (upd H p (.lst [.ref l, .int (i + 1)])) := ⟨fun b o hb e => by rw [upd_ne hb]; exact e, ⟨l, i + 1, ns, upd_same, by rw [upd_ne hlp]; exact h2, by omega, hlp⟩, fun l2 i2 e => by
      rw [h1] at e
      cases e
      exact ⟨_, upd_same⟩⟩
    refine ⟨_, SqL.of h1, V.int i, rfl, i, rfl, _, h1, 1, rfl, ?_⟩
    show ∃ x, SqL K (upd H p (.lst [.ref l, .int (i + 1)])) p x ∧ _
    refine ⟨_, SqL.of upd_same, _, rfl, l, rfl, nums ns, .inl (SqL.of (by rw [upd_ne hlp]; exact h2)), ?_⟩
    refine ⟨i, rfl, ite2 (fun hlt => ?_) (fun _ => k 0 _ (Int.le_refl 0) hm g)⟩
    have hi' : i.toNat < ns.length := by
      rw [nums, List.length_map] at hlt
      omega
    have hat : atI (nums ns) i = some (V.int ns[i.toNat]) := at_of (j := i.toNat) (by omega) (by rw [nums, List.getElem?_map]; simp [hi'])
    exact ⟨_, SqL.of upd_same, _, rfl, l, rfl, nums ns, i, rfl, SqL.of (by rw [upd_ne hlp]; exact h2), _, hat, .inl ⟨_, rfl, hm, k _ _ (Int.emod_nonneg _ (by omega)) (Int.emod_lt_of_pos _ hm) g⟩⟩
/-! ### _law_pick -/
def spPick (K : PySem.W.Frag) : Sp := fun vs H Q _ => ∃ (p a : Addr) (xs : List V), vs = [.ref p, .ref a] ∧ Pool H p ∧ ((SqL K H a xs ∧ a ≠ p) ∨ SqT K H a xs) ∧ 0 < xs.length ∧ ∀ (x : V) H', x ∈ xs → Gr p H H' → Q x H'
theorem scPick : FnScope ["pool", "some"] ["pool", "some"] (defScope sPick) := ⟨rfl, rfl, rfl, by decide +kernel, rfl, by decide +kernel, by decide +kernel⟩
theorem c_pick (D : Def K mg "_law_pick" sPick ["pool", "some"]) (T : Bl mg) (cD : FnC P w K mg base CX0 1 "_law_draw" ["pool", "many"] spDraw) : FnC P w K mg base CX0 2 "_law_pick" ["pool", "some"] (spPick K) := by
  refine D.ok scPick (fun vs H Q E h => ?_) (fun f cdv A outer s H vs Q E hr h => ?_)
  · obtain ⟨p, a, xs, rfl, _⟩ := h
    rfl
  · obtain ⟨p, a, xs, rfl, hP, hx, hl, k⟩ := h
    refine ⟨_, (pss_one (ps_ret (pe_ix (ix_list.or ix_tup) (pv 1) (pe_c cD hr rfl (pa_cons (pv 0) (pa_cons (pe_callB call_len_seq (by rfl) T.n_len (by decide +kernel) (pa_cons (pv 1) pa_nil)) pa_nil))) (fun _ _ => rfl)))), ?_⟩
    walk_at "wp"
    have hx2 : SqL K H a xs ∨ SqT K H a xs := hx.imp And.left id
    refine ⟨xs, hx2, p, _, rfl, hP, by omega, fun v H' h0 h1 g => ?_⟩
    have hv : v.toNat < xs.length := by omega
    have hat : atI xs v = some xs[v.toNat] := at_of (j := v.toNat) (by omega) (by simp [hv])
    have q := k xs[v.toNat] H' (List.getElem_mem hv) g
    rcases hx with ⟨hx, hne⟩ | hx
    · exact .inl ⟨xs, v, rfl, g.lst hne hx, _, hat, q⟩
    · exact .inr ⟨xs, v, rfl, g.tup hP hx, _, hat, q⟩
end
end YY

set_option maxRecDepth 100000
set_option maxHeartbeats 4000000
namespace YY
open PySem PySem.Spec PyProof.Rows L2 XX
local macro_rules | `(tactic| walk_at "wp") => `(tactic| simp only [tSeq, tNext, tAsg, tPar, gName, tCB, tCons, tNil, tVar, tC, tOp, tUn, rI, rI0, rU, tLst, tTup, tFor_eq, iRng1, iRng2, iList, iTup, tRet, tRetN, tDrop, tIfS, tTest, tB, tAnd, tOr, tNot, tIf, tAndV, tOrV, tNotV, tCall, tBM, tBM0, rIxL, rIxT, rAppend, tLc_eq, gSub, rSetL, rEq, rNe, rMulS, rIxS, tRevT, gTup, gCons, gNil, wipe, tYes, LcEnd, tDisp, tPairs, tChain, tSl, tPart, tNoPart, rSlT, rSlL, rCatT, rCat, rRep, rIsD, V.ty.injEq, iZipB, tXf, wMA, wAs, rLenK, tLenSetS, rReprE, tVeI, tOst, tErr, tMkO, sFld, tFld, rIsE2, tMakeS, rListStr, tDNotIn, tDGet, rSetD, gSub, iEnumA, rIxD, iStr,
  cxOf_K, cxOf_noxK, L2.start, List.map_cons, List.map_nil, List.length_cons, List.length_nil, Nat.reduceAdd, Nat.reduceSub, List.replicate_succ, List.replicate_zero, List.replicate, List.cons_append, List.nil_append, List.getElem?_cons_zero, List.getElem?_cons_succ, List.set_cons_zero, List.set_cons_succ, List.append_nil,
  Option.some.injEq, V.int.injEq, V.ref.injEq, V.bl.injEq, V.str.injEq, List.cons.injEq, and_true, true_and, exists_eq_left', exists_eq_left, exists_and_left, exists_and_right, exists_const, bool_ite_true, bool_ite_false, dec_ite, ndec_ite, reduceCtorEq, false_or, or_false, false_and, and_false, decide_eq_true_eq, and_assoc, reduceIte, ite_true, ite_false, Int.zero_add])

abbrev sWords : Stmt := topS 49
abbrev sBranch : Stmt := topS 50
abbrev sRow : Stmt := topS 51
abbrev sPlan : Stmt := topS 52
theorem Gr.ofSame {p : Addr} {H H' : Hp} (h : Pool H p) (e : Same H H') : Gr p H H' := by
  obtain ⟨l, i, ns, h1, h2, h3⟩ := h
  exact ⟨fun b o _ hb => e b o hb, ⟨l, i, ns, e _ _ h1, e _ _ h2, h3⟩, fun l i h => ⟨i, e _ _ h⟩⟩
/-! ### slices and sums of tuples, by what they leave -/
theorem cutV_whole {xs : List V} {lo hi : Option Int} (h : HT.sIx xs.length 0 lo = 0 ∧ HT.sIx xs.length xs.length hi = xs.length) : cutV xs lo hi = xs := by
  unfold cutV
  rw [h.1, h.2]
  simp
theorem sl_res {K : PySem.W.Frag} {a : Addr} {xs : List V} {lo hi : Option Int} {H : Hp} {Q : VK} (h : SqT K H a xs) (q : ∀ r H', Same H H' → SqT K H' r (cutV xs lo hi) → Q (.ref r) H') : rSlA K (.ref a) lo hi H Q :=
  ⟨a, xs, rfl, h, fun hw => q a H (Same.refl H) (by rw [cutV_whole hw]; exact h), fun _ p hp => q p _ (same_new hp) (SqT.of upd_same)⟩
/-! ### letters and words -/
def abc : Str := PySem.Str.ofString "abcdefghijklmnopqrstuvwxyz"
theorem abc_list : abc.cps.toList = (List.range 26).map (97 + ·) := by decide +kernel
theorem abc_at {i : Int} (h0 : 0 ≤ i) (h1 : i < 26) : atI abc.cps.toList i = some (97 + i.toNat) := by
  have e : i = ((i.toNat : Nat) : Int) := by omega
  have q : abc.cps.toList[i.toNat]? = some (97 + i.toNat) := by
    rw [abc_list, List.getElem?_map, List.getElem?_range (by omega)]
    rfl
  rw [e]
  exact atI_nat q
theorem foldl_flat : ∀ (k : Nat) (z a : Array Nat), ((List.replicate k z).foldl (· ++ ·) a).toList = a.toList ++ (List.replicate k z.toList).flatten
  | 0, z, a => by simp
  | k + 1, z, a => by
    rw [List.replicate_succ, List.foldl_cons, foldl_flat k z, List.replicate_succ, List.flatten_cons]
    simp
theorem strRep_one (c : Nat) (k : Int) : (strRep ⟨#[c]⟩ k).cps.toList = List.replicate k.toNat c := by
  unfold strRep
  by_cases h : k < 1
  · rw [if_pos h]
    have e : k.toNat = 0 := by omega
    rw [e]
    rfl
  · rw [if_neg h]
    by_cases h2 : (k == 1 || Str.length ⟨#[c]⟩ == 0) = true
    · rw [if_pos h2]
      have e : k = 1 := by
        rcases Bool.or_eq_true_iff.mp h2 with h3 | h3
        · exact eq_of_beq h3
        · exact absurd (eq_of_beq h3) (by show ¬ (1 = 0); decide)
      subst e
      rfl
    · rw [if_neg h2]
      show ((List.replicate k.toNat (#[c] : Array Nat)).foldl (· ++ ·) #[]).toList = _
      rw [foldl_flat]
      show [] ++ (List.replicate k.toNat [c]).flatten = _
      rw [List.nil_append]
      induction k.toNat with
      | zero => rfl
      | succ n ih =>
        rw [List.replicate_succ, List.flatten_cons, ih]
        rfl
/-- one to eight small letters -/
def IsWord (z : Str) : Prop := 1 ≤ z.length ∧ z.length ≤ 8 ∧ ∀ c ∈ z.cps.toList, 97 ≤ c ∧ c ≤ 122
structure WordsOk (ws : List Str) : Prop where
  least : 1 ≤ ws.length
  most : ws.length ≤ 2
  all : ∀ z ∈ ws, IsWord z
  nd : ws.Nodup
  nn : ("none" : Str) ∉ ws
theorem str_len (z : Str) : z.length = z.cps.toList.length := by
  show z.cps.size = _
  rw [Array.length_toList]
theorem words_pair {a s : Int} (h0 : 0 ≤ a) (h1 : a < 24) (h2 : 1 ≤ s) (h3 : s ≤ 7) :
    IsWord (strRep ⟨#[97 + a.toNat]⟩ s) ∧ IsWord ((⟨#[97 + (a + 1).toNat]⟩ : Str) ++ strRep ⟨#[97 + a.toNat]⟩ (s - 1)) ∧ strRep ⟨#[97 + a.toNat]⟩ s ≠ (⟨#[97 + (a + 1).toNat]⟩ : Str) ++ strRep ⟨#[97 + a.toNat]⟩ (s - 1) ∧
    strRep ⟨#[97 + a.toNat]⟩ s ≠ ("none" : Str) ∧ (⟨#[97 + (a + 1).toNat]⟩ : Str) ++ strRep ⟨#[97 + a.toNat]⟩ (s - 1) ≠ ("none" : Str) := by
  have e1 := strRep_one (97 + a.toNat) s
  have e2 : ((⟨#[97 + (a + 1).toNat]⟩ : Str) ++ strRep ⟨#[97 + a.toNat]⟩ (s - 1)).cps.toList = (97 + (a + 1).toNat) :: List.replicate (s - 1).toNat (97 + a.toNat) := by
    show ((#[97 + (a + 1).toNat] : Array Nat) ++ (strRep ⟨#[97 + a.toNat]⟩ (s - 1)).cps).toList = _
    rw [Array.toList_append, strRep_one]
    rfl
  have e0 : ("none" : Str).cps.toList = [110, 111, 110, 101] := by decide +kernel
  refine ⟨⟨?_, ?_, fun c hc => ?_⟩, ⟨?_, ?_, fun c hc => ?_⟩, fun z => ?_, fun z => ?_, fun z => ?_⟩
  · rw [str_len, e1, List.length_replicate]
    omega
  · rw [str_len, e1, List.length_replicate]
    omega
  · rw [e1] at hc
    rw [List.eq_of_mem_replicate hc]
    omega
  · rw [str_len, e2, List.length_cons]
    omega
  · rw [str_len, e2, List.length_cons, List.length_replicate]
    omega
  · rw [e2] at hc
    rcases List.mem_cons.mp hc with q | q
    · omega
    · rw [List.eq_of_mem_replicate q]
      omega
  · have q : (strRep ⟨#[97 + a.toNat]⟩ s).cps.toList = ((⟨#[97 + (a + 1).toNat]⟩ : Str) ++ strRep ⟨#[97 + a.toNat]⟩ (s - 1)).cps.toList := by rw [z]
    rw [e1, e2] at q
    have e3 : s.toNat = (s - 1).toNat + 1 := by omega
    rw [e3, List.replicate_succ] at q
    injection q with q1 _
    omega
  · have q : (strRep ⟨#[97 + a.toNat]⟩ s).cps.toList = ("none" : Str).cps.toList := by rw [z]
    rw [e1, e0] at q
    have m1 : (110 : Nat) ∈ List.replicate s.toNat (97 + a.toNat) := by rw [q]; decide
    have m2 : (111 : Nat) ∈ List.replicate s.toNat (97 + a.toNat) := by rw [q]; decide
    have n1 := List.eq_of_mem_replicate m1
    have n2 := List.eq_of_mem_replicate m2
    omega
  · have q : ((⟨#[97 + (a + 1).toNat]⟩ : Str) ++ strRep ⟨#[97 + a.toNat]⟩ (s - 1)).cps.toList = ("none" : Str).cps.toList := by rw [z]
    rw [e2, e0] at q
    injection q with _ q
    have m1 : (110 : Nat) ∈ List.replicate (s - 1).toNat (97 + a.toNat) := by rw [q]; decide
    have m2 : (111 : Nat) ∈ List.replicate (s - 1).toNat (97 + a.toNat) := by rw [q]; decide
    have n1 := List.eq_of_mem_replicate m1
    have n2 := List.eq_of_mem_replicate m2
    omega
section
variable {P : Program} {w : World} {K : PySem.W.Frag} {mg : Str → Option Value} {base : Heap}
/-! ### _law_words -/
def spWords (K : PySem.W.Frag) : Sp := fun vs H Q _ => ∃ p : Addr, vs = [.ref p] ∧ Pool H p ∧ ∀ (t : Addr) (ws : List Str) H', Gr p H H' → SqT K H' t (ws.map V.str) → WordsOk ws → Q (.ref t) H'
theorem scWords : FnScope ["pool", "letters", "at", "size", "words"] ["pool"] (defScope sWords) := ⟨rfl, rfl, rfl, by decide +kernel, rfl, by decide +kernel, by decide +kernel⟩
theorem c_words (D : Def K mg "_law_words" sWords ["pool"]) (T : Bl mg) (cD : FnC P w K mg base CX0 1 "_law_draw" ["pool", "many"] spDraw) : FnC P w K mg base CX0 2 "_law_words" ["pool"] (spWords K) := by
  refine D.ok scWords (fun vs H Q E h => ?_) (fun f cdv A outer s H vs Q E hr h => ?_)
  · obtain ⟨p, rfl, _⟩ := h
    rfl
  · obtain ⟨p, rfl, hP, k⟩ := h
    have sc := scWords
    refine ⟨_, (pss_cons (ps_set (i := 1) sc.nd rfl (Or.inl rfl) pe_str)
    (pss_cons (ps_par (i := 2) (j := 3) (by rfl) sc.nd rfl rfl (by decide) rfl rfl (pa_cons (pe_c cD hr rfl (pa_cons (pv 0) (pa_cons pe_int pa_nil))) (pa_cons (pe_op op_add pe_int (pe_c cD hr rfl (pa_cons (pv 0) (pa_cons pe_int pa_nil)))) pa_nil)) (by rfl))
    (pss_cons (ps_set (i := 4) sc.nd rfl (Or.inl rfl) (pe_tup (pa_cons (pe_op op_mulS (pe_ix ix_str (pv 1) (pv 2) (fun _ _ => rfl)) (pv 3)) (pa_cons (pe_op op_add_str (pe_ix ix_str (pv 1) (pe_op op_add (pv 2) pe_int) (fun _ _ => rfl)) (pe_op op_mulS (pe_ix ix_str (pv 1) (pv 2) (fun _ _ => rfl)) (pe_op op_sub (pv 3) pe_int))) pa_nil))))
    (pss_one (ps_ret (pe_ifExp (pt_cmpR op_eq (pe_c cD hr rfl (pa_cons (pv 0) (pa_cons pe_int pa_nil))) pe_int (nomark _)) (pe_slice sl_tupA (pv 4) po_none (po_some (pe_op op_add pe_int (pe_c cD hr rfl (pa_cons (pv 0) (pa_cons pe_int pa_nil)))))) (pe_slice sl_tupA (pe_revT (pv 4)) po_none (po_some (pe_op op_add pe_int (pe_c cD hr rfl (pa_cons (pv 0) (pa_cons pe_int pa_nil)))))))))))), ?_⟩
    walk_at "wp"
    refine ⟨p, 24, rfl, hP, by decide, fun a H1 a0 a1 g1 => ⟨p, 7, rfl, g1.pool, by decide, fun b H2 b0 b1 g2 => ?_⟩⟩
    walk_at "wp"
    have hl1 : (PySem.Str.ofString "abcdefghijklmnopqrstuvwxyz").length ≤ sizeLine := by decide +kernel
    have hs : ∀ c : Nat, Str.length ⟨#[c]⟩ = 1 := fun _ => rfl
    have eb : 1 + b - 1 = (1 + b) - 1 := rfl
    obtain ⟨w1, w2, w12, wn1, wn2⟩ := words_pair (a := a) (s := 1 + b) a0 a1 (by omega) (by omega)
    have hw8 : ∀ z : Str, IsWord z → z.length ≤ 8 := fun z h => h.2.1
    refine ⟨hl1, _, abc_at a0 (by omega), by omega, by omega, by rw [hs]; decide, hl1, _, abc_at (i := a + 1) (by omega) (by omega), hl1, _, abc_at a0 (by omega), by omega, by omega, by rw [hs]; decide, ?_, by decide, fun t ht => ?_⟩
    · rw [hs, strRep_length, hs, sizeLine_eq]
      omega
    generalize hx : strRep ⟨#[97 + a.toNat]⟩ (1 + b) = x at w1 w12 wn1 ⊢
    generalize hy : (⟨#[97 + (a + 1).toNat]⟩ : Str) ++ strRep ⟨#[97 + a.toNat]⟩ (1 + b - 1) = y at w2 w12 wn2 ⊢
    have g3 : Gr p H (upd H2 t (.tup [.str x, .str y])) := (g1.trans g2).trans (Gr.new g2.pool ht)
    have fin : ∀ (u v : Str) (q : Addr) (d : Int) (G : Hp), IsWord u → IsWord v → u ≠ v → u ≠ ("none" : Str) → v ≠ ("none" : Str) → SqT K G q [.str u, .str v] → Gr p H G → 0 ≤ d → d < 2 → rSlA K (.ref q) none (some (1 + d)) G Q := fun u v q d G hu hv huv hun hvn hq hg d0 d1 => by
      refine sl_res hq fun r G' e h => ?_
      have hd : d = 0 ∨ d = 1 := by omega
      rcases hd with rfl | rfl
      · exact k r [u] G' (hg.trans (Gr.ofSame hg.pool e)) h ⟨by simp, by simp, fun z hz => by rw [List.mem_singleton.mp hz]; exact hu, by simp, fun m => hun (List.mem_singleton.mp m).symm⟩
      · exact k r [u, v] G' (hg.trans (Gr.ofSame hg.pool e)) h ⟨by simp, by simp, fun z hz => by
          rcases List.mem_cons.mp hz with e | hz
          · rw [e]; exact hu
          · rw [List.mem_singleton.mp hz]; exact hv, by simp [huv], fun m => by
          rcases List.mem_cons.mp m with e | m
          · exact hun e.symm
          · exact hvn (List.mem_singleton.mp m).symm⟩
    refine ⟨p, 2, rfl, g3.pool, by decide, fun c H3 c0 c1 g4 => ⟨rfl, ?_⟩⟩
    have g5 := g3.trans g4
    have ht3 : SqT K H3 t [.str x, .str y] := g4.tup g3.pool (SqT.of upd_same)
    refine ite2 (fun _ => ?_) fun _ => ?_
    · exact ⟨p, 2, rfl, g5.pool, by decide, fun d H4 d0 d1 g6 => ⟨d, rfl, fin x y t d H4 w1 w2 w12 wn1 wn2 (g6.tup g5.pool ht3) (g5.trans g6) d0 d1⟩⟩
    · refine ⟨_, ht3, fun q hq => ?_⟩
      have g6 : Gr p H (upd H3 q (.tup [.str y, .str x])) := g5.trans (Gr.new g5.pool hq)
      exact ⟨p, 2, rfl, g6.pool, by decide, fun d H4 d0 d1 g7 => ⟨d, rfl, fin y x q d H4 w2 w1 w12.symm wn2 wn1 (g7.tup g6.pool (SqT.of upd_same)) (g6.trans g7) d0 d1⟩⟩
end
end YY

set_option maxRecDepth 100000
set_option maxHeartbeats 4000000
namespace YY
open PySem PySem.Spec PyProof.Rows L2 XX
local macro_rules | `(tactic| walk_at "wp") => `(tactic| simp only [tSeq, tNext, tAsg, tPar, gName, tCB, tCons, tNil, tVar, tC, tOp, tUn, rI, rI0, rU, tLst, tTup, tFor_eq, iRng1, iRng2, iList, iTup, tRet, tRetN, tDrop, tIfS, tTest, tB, tAnd, tOr, tNot, tIf, tAndV, tOrV, tNotV, tCall, tBM, tBM0, rIxL, rIxT, rAppend, tLc_eq, gSub, rSetL, rEq, rNe, rMulS, rIxS, tRevT, gTup, gCons, gNil, wipe, tYes, LcEnd, tDisp, tPairs, tChain, tSl, tPart, tNoPart, rSlT, rSlL, rCatT, rCat, rRep, rIsD, V.ty.injEq, iZipB, tXf, wMA, wAs, rLenK, tLenSetS, rReprE, tVeI, tOst, tErr, tMkO, sFld, tFld, rIsE2, tMakeS, rListStr, tDNotIn, tDGet, rSetD, gSub, iEnumA, rIxD, iStr,
  cxOf_K, cxOf_noxK, L2.start, List.map_cons, List.map_nil, List.length_cons, List.length_nil, Nat.reduceAdd, Nat.reduceSub, List.replicate_succ, List.replicate_zero, List.replicate, List.cons_append, List.nil_append, List.getElem?_cons_zero, List.getElem?_cons_succ, List.set_cons_zero, List.set_cons_succ, List.append_nil,
  Option.some.injEq, V.int.injEq, V.ref.injEq, V.bl.injEq, V.str.injEq, List.cons.injEq, and_true, true_and, exists_eq_left', exists_eq_left, exists_and_left, exists_and_right, exists_const, bool_ite_true, bool_ite_false, dec_ite, ndec_ite, reduceCtorEq, false_or, or_false, false_and, and_false, decide_eq_true_eq, and_assoc, reduceIte, ite_true, ite_false, Int.zero_add])

/-! ### rows as data -/
inductive RowD where
  | set (w : Str) (v : Int) | copy (w o : Str) | take (w : Str) | br (w : Str) (v t j : Int) | go (t : Int) | group (g : Str) (a : Option Int) | meet (m : Str)
  | any (w : Str) (v : Int) (o : Str) | all (w : Str) (v : Int) (o : Str) | same (w o : Str) | fin
def optV : Option Int → V
  | none => .non
  | some i => .int i
def RowD.vals : RowD → List V
  | .set w v => [.str "set", .str w, .int v]
  | .copy w o => [.str "copy", .str w, .str o]
  | .take w => [.str "take", .str w]
  | .br w v t j => [.str "if", .str w, .int v, .int t, .int j]
  | .go t => [.str "go", .int t]
  | .group g a => [.str "group", .str g, optV a]
  | .meet m => [.str "meet", .str m]
  | .any w v o => [.str "any", .str w, .int v, .str o]
  | .all w v o => [.str "all", .str w, .int v, .str o]
  | .same w o => [.str "same", .str w, .str o]
  | .fin => [.str "end"]
def RowD.Ok (ws : List Str) (size many : Int) : RowD → Prop
  | .set w v => w ∈ ws ∧ 0 ≤ v ∧ v < size
  | .copy w o => w ∈ ws ∧ o ∈ ws
  | .take w => w ∈ ws
  | .br w v t j => w ∈ ws ∧ (0 ≤ v ∧ v < size) ∧ (0 ≤ t ∧ t ≤ many) ∧ 0 ≤ j ∧ j ≤ many
  | .go t => 0 ≤ t ∧ t ≤ many
  | .group g a => (g = "g" ∨ g = "h") ∧ ∀ i, a = some i → 0 ≤ i ∧ i < many
  | .meet m => m = "m" ∨ m = "n"
  | .any w v o => w ∈ ws ∧ (0 ≤ v ∧ v < size) ∧ o ∈ ws
  | .all w v o => w ∈ ws ∧ (0 ≤ v ∧ v < size) ∧ o ∈ ws
  | .same w o => w ∈ ws ∧ o ∈ ws
  | .fin => True
section
variable {P : Program} {w : World} {K : PySem.W.Frag} {mg : Str → Option Value} {base : Heap}
/-! ### _law_branch -/
def spBranch (K : PySem.W.Frag) : Sp := fun vs H Q _ => ∃ (p wa : Addr) (index many size : Int) (ws : List Str), vs = [.ref p, .int index, .int many, .ref wa, .int size] ∧ Pool H p ∧ 0 ≤ index ∧ index < many ∧ SqT K H wa (ws.map V.str) ∧ ws ≠ [] ∧ 0 < size ∧
  ∀ (t : Addr) (r : RowD) H', Gr p H H' → SqT K H' t r.vals → r.Ok ws size many → Q (.ref t) H'
theorem scBranch : FnScope ["pool", "index", "many", "words", "size", "to", "join"] ["pool", "index", "many", "words", "size"] (defScope sBranch) := ⟨rfl, rfl, rfl, by decide +kernel, rfl, by decide +kernel, by decide +kernel⟩
theorem c_branch (D : Def K mg "_law_branch" sBranch ["pool", "index", "many", "words", "size"]) (T : Bl mg) (n_min : mg "min" = none) (cD : FnC P w K mg base CX0 1 "_law_draw" ["pool", "many"] spDraw) (cP : FnC P w K mg base CX0 2 "_law_pick" ["pool", "some"] (spPick K)) :
    FnC P w K mg base CX0 3 "_law_branch" ["pool", "index", "many", "words", "size"] (spBranch K) := by
  refine D.ok scBranch (fun vs H Q E h => ?_) (fun f cdv A outer s H vs Q E hr h => ?_)
  · obtain ⟨p, wa, index, many, size, ws, rfl, _⟩ := h
    rfl
  · obtain ⟨p, wa, index, many, size, ws, rfl, hP, i0, i1, hW, hne, hs, k⟩ := h
    have sc := scBranch
    have hr1 : Room 1 _ := hr.mono (by decide)
    refine ⟨_, (pss_cons (ps_set (i := 5) sc.nd rfl (Or.inl rfl) (pe_op op_add (pe_op op_add (pv 1) pe_int) (pe_c cD hr1 rfl (pa_cons (pv 0) (pa_cons (pe_op op_sub (pv 2) (pv 1)) pa_nil)))))
    (pss_cut (ps_if (pt_cmpR op_eq (pe_c cD hr1 rfl (pa_cons (pv 0) (pa_cons pe_int pa_nil))) pe_int (nomark _)) (pss_one (ps_set (i := 5) sc.nd rfl (Or.inl rfl) (pe_c cD hr1 rfl (pa_cons (pv 0) (pa_cons (pe_op op_add (pv 2) pe_int) pa_nil))))) pss_nil)
    (pss_cons (ps_set (i := 6) sc.nd rfl (Or.inl rfl) (pe_op op_add (pe_callB (call_max2 rfl) (by rfl) T.n_max (by decide +kernel) (pa_cons (pv 5) (pa_cons (pe_op op_add (pv 1) pe_int) pa_nil))) (pe_c cD hr1 rfl (pa_cons (pv 0) (pa_cons pe_int pa_nil)))))
    (pss_cut (ps_if (pt_cmpR op_eq (pe_c cD hr1 rfl (pa_cons (pv 0) (pa_cons pe_int pa_nil))) pe_int (nomark _)) (pss_one (ps_set (i := 6) sc.nd rfl (Or.inl rfl) (pe_c cD hr1 rfl (pa_cons (pv 0) (pa_cons (pe_op op_add (pv 2) pe_int) pa_nil))))) pss_nil)
    (pss_one (ps_ret (pe_tup (pa_cons pe_str (pa_cons (pe_c cP hr rfl (pa_cons (pv 0) (pa_cons (pv 3) pa_nil))) (pa_cons (pe_c cD hr1 rfl (pa_cons (pv 0) (pa_cons (pv 4) pa_nil))) (pa_cons (pv 5) (pa_cons (pe_callB (call_min2 rfl) (by rfl) n_min (by decide +kernel) (pa_cons (pv 6) (pa_cons (pv 2) pa_nil))) pa_nil)))))))))))), ?_⟩
    walk_at "wp"
    refine ⟨p, many - index, rfl, hP, by omega, fun a H1 a0 a1 g1 => ?_⟩
    walk_at "wp"
    refine ⟨fun τ G => ∃ to : Int, τ = [some (.ref p), some (.int index), some (.int many), some (.ref wa), some (.int size), some (.int to), none] ∧ Gr p H G ∧ 0 ≤ to ∧ to ≤ many, ?_, ?_⟩
    · walk_at "wp"
      refine ⟨p, 4, rfl, g1.pool, by decide, fun b H2 b0 b1 g2 => ⟨rfl, ite2 (fun _ => ⟨p, many + 1, rfl, g2.pool, by omega, fun c H3 c0 c1 g3 => ⟨c, rfl, (g1.trans g2).trans g3, c0, by omega⟩⟩) fun _ => ⟨g1.trans g2, by omega, by omega⟩⟩⟩
    rintro τ G ⟨to, rfl, g3, t0, t1⟩
    walk_at "wp"
    refine ⟨p, 3, rfl, g3.pool, by decide, fun b H2 b0 b1 g4 => ?_⟩
    walk_at "wp"
    refine ⟨fun τ G => ∃ j : Int, τ = [some (.ref p), some (.int index), some (.int many), some (.ref wa), some (.int size), some (.int to), some (.int j)] ∧ Gr p H G ∧ 0 ≤ j, ?_, ?_⟩
    · walk_at "wp"
      refine ⟨p, 5, rfl, g4.pool, by decide, fun b H3 b0 b1 g5 => ⟨rfl, ite2 (fun _ => ⟨p, many + 1, rfl, g5.pool, by omega, fun c H4 c0 c1 g6 => ⟨c, rfl, ((g3.trans g4).trans g5).trans g6, c0⟩⟩) fun _ => ⟨(g3.trans g4).trans g5, ?_⟩⟩⟩
      split <;> omega
    rintro τ G ⟨j, rfl, g5, j0⟩
    walk_at "wp"
    refine ⟨p, wa, ws.map V.str, rfl, g5.pool, .inr (g5.tup hP hW), by rw [List.length_map]; exact List.length_pos_iff.mpr hne, fun x G1 hx g6 => ?_⟩
    obtain ⟨z, hz, rfl⟩ := List.mem_map.mp hx
    refine ⟨p, size, rfl, g6.pool, hs, fun y G2 y0 y1 g7 => ⟨by decide, fun q hq => ?_⟩⟩
    refine k q (.br z y to (if many < j then many else j)) _ (((g5.trans g6).trans g7).trans (Gr.new g7.pool hq)) (SqT.of upd_same) ⟨hz, ⟨y0, y1⟩, ⟨t0, t1⟩, ?_, ?_⟩
    · split <;> omega
    · split <;> omega
end
end YY

set_option maxRecDepth 100000
set_option maxHeartbeats 4000000
namespace YY
open PySem PySem.Spec PyProof.Rows L2 XX
local macro_rules | `(tactic| walk_at "wp") => `(tactic| simp only [tSeq, tNext, tAsg, tPar, gName, tCB, tCons, tNil, tVar, tC, tOp, tUn, rI, rI0, rU, tLst, tTup, tFor_eq, iRng1, iRng2, iList, iTup, tRet, tRetN, tDrop, tIfS, tTest, tB, tAnd, tOr, tNot, tIf, tAndV, tOrV, tNotV, tCall, tBM, tBM0, rIxL, rIxT, rAppend, tLc_eq, gSub, rSetL, rEq, rNe, rMulS, rIxS, tRevT, gTup, gCons, gNil, wipe, tYes, LcEnd, tDisp, tPairs, tChain, tSl, tPart, tNoPart, rSlT, rSlL, rCatT, rCat, rRep, rIsD, V.ty.injEq, iZipB, tXf, wMA, wAs, rLenK, tLenSetS, rReprE, tVeI, tOst, tErr, tMkO, sFld, tFld, rIsE2, tMakeS, rListStr, tDNotIn, tDGet, rSetD, gSub, iEnumA, rIxD, iStr,
  cxOf_K, cxOf_noxK, L2.start, List.map_cons, List.map_nil, List.length_cons, List.length_nil, Nat.reduceAdd, Nat.reduceSub, List.replicate_succ, List.replicate_zero, List.replicate, List.cons_append, List.nil_append, List.getElem?_cons_zero, List.getElem?_cons_succ, List.set_cons_zero, List.set_cons_succ, List.append_nil,
  Option.some.injEq, V.int.injEq, V.ref.injEq, V.bl.injEq, V.str.injEq, List.cons.injEq, and_true, true_and, exists_eq_left', exists_eq_left, exists_and_left, exists_and_right, exists_const, bool_ite_true, bool_ite_false, dec_ite, ndec_ite, reduceCtorEq, false_or, or_false, false_and, and_false, decide_eq_true_eq, and_assoc, reduceIte, ite_true, ite_false, Int.zero_add])

theorem inV_two {z a b : Str} (h : inV (.str z) [.str a, .str b] = true) : z = a ∨ z = b := by
  unfold inV at h
  rw [List.any_cons, List.any_cons, List.any_nil, Bool.or_false] at h
  rcases Bool.or_eq_true_iff.mp h with q | q
  · have q' : (a == z) = true := q
    exact .inl (eq_of_beq q').symm
  · have q' : (b == z) = true := q
    exact .inr (eq_of_beq q').symm
section
variable {P : Program} {w : World} {K : PySem.W.Frag} {mg : Str → Option Value} {base : Heap}
def spRow (K : PySem.W.Frag) : Sp := fun vs H Q _ => ∃ (p wa ka : Addr) (index many size : Int) (ws ks : List Str), vs = [.ref p, .int index, .int many, .ref wa, .int size, .ref ka] ∧ Pool H p ∧ 0 ≤ index ∧ index < many ∧ SqT K H wa (ws.map V.str) ∧ ws ≠ [] ∧ 0 < size ∧
  SqL K H ka (ks.map V.str) ∧ ka ≠ p ∧ ks ≠ [] ∧ ∀ (t : Addr) (r : RowD) H', Gr p H H' → SqT K H' t r.vals → r.Ok ws size many → Q (.ref t) H'
theorem scRow : FnScope ["pool", "index", "many", "words", "size", "kinds", "kind"] ["pool", "index", "many", "words", "size", "kinds"] (defScope sRow) := ⟨rfl, rfl, rfl, by decide +kernel, rfl, by decide +kernel, by decide +kernel⟩
theorem c_row (D : Def K mg "_law_row" sRow ["pool", "index", "many", "words", "size", "kinds"]) (T : Bl mg) (cD : FnC P w K mg base CX0 1 "_law_draw" ["pool", "many"] spDraw) (cP : FnC P w K mg base CX0 2 "_law_pick" ["pool", "some"] (spPick K))
    (cB : FnC P w K mg base CX0 3 "_law_branch" ["pool", "index", "many", "words", "size"] (spBranch K)) : FnC P w K mg base CX0 4 "_law_row" ["pool", "index", "many", "words", "size", "kinds"] (spRow K) := by
  refine D.ok scRow (fun vs H Q E h => ?_) (fun f cdv A outer s H vs Q E hr h => ?_)
  · obtain ⟨p, wa, ka, index, many, size, ws, ks, rfl, _⟩ := h
    rfl
  · obtain ⟨p, wa, ka, index, many, size, ws, ks, rfl, hP, i0, i1, hW, hne, hs, hk, hkp, hkn, k⟩ := h
    have sc := scRow
    have hr1 : Room 1 _ := hr.mono (by decide)
    have hr2 : Room 2 _ := hr.mono (by decide)
    refine ⟨_, (pss_cons (ps_set (i := 6) sc.nd rfl (Or.inl rfl) (pe_c cP hr2 rfl (pa_cons (pv 0) (pa_cons (pv 5) pa_nil))))
    (pss_cons (ps_if (pt_cmpR op_eq (pv 6) pe_str (nomark _)) (pss_one (ps_ret (pe_c cB hr rfl (pa_cons (pv 0) (pa_cons (pv 1) (pa_cons (pv 2) (pa_cons (pv 3) (pa_cons (pv 4) pa_nil)))))))) pss_nil)
    (pss_cons (ps_if (pt_cmpR op_eq (pv 6) pe_str (nomark _)) (pss_one (ps_ret (pe_tup (pa_cons pe_str (pa_cons (pe_c cD hr1 rfl (pa_cons (pv 0) (pa_cons (pe_op op_add (pv 2) pe_int) pa_nil))) pa_nil))))) pss_nil)
    (pss_cons (ps_if (pt_cmpR op_eq (pv 6) pe_str (nomark _)) (pss_one (ps_ret (pe_tup (pa_cons pe_str (pa_cons (pe_c cP hr2 rfl (pa_cons (pv 0) (pa_cons (pe_lst (pa_cons pe_str (pa_cons pe_str pa_nil))) pa_nil))) (pa_cons (pe_ix ix_list (pe_lst (pa_cons pe_non (pa_cons (pe_c cD hr1 rfl (pa_cons (pv 0) (pa_cons (pv 2) pa_nil))) pa_nil))) (pe_c cD hr1 rfl (pa_cons (pv 0) (pa_cons pe_int pa_nil))) (fun _ _ => rfl)) pa_nil)))))) pss_nil)
    (pss_cons (ps_if (pt_cmpR op_eq (pv 6) pe_str (nomark _)) (pss_one (ps_ret (pe_tup (pa_cons pe_str (pa_cons (pe_c cP hr2 rfl (pa_cons (pv 0) (pa_cons (pe_lst (pa_cons pe_str (pa_cons pe_str pa_nil))) pa_nil))) pa_nil))))) pss_nil)
    (pss_cons (ps_if (pt_cmpR op_eq (pv 6) pe_str (nomark _)) (pss_one (ps_ret (pe_tup (pa_cons pe_str (pa_cons (pe_c cP hr2 rfl (pa_cons (pv 0) (pa_cons (pv 3) pa_nil))) (pa_cons (pe_c cD hr1 rfl (pa_cons (pv 0) (pa_cons (pv 4) pa_nil))) pa_nil)))))) pss_nil)
    (pss_cons (ps_if (pt_cmpR op_in_seq (pv 6) (pe_lst (pa_cons pe_str (pa_cons pe_str pa_nil))) (by rfl)) (pss_one (ps_ret (pe_tup (pa_cons (pv 6) (pa_cons (pe_c cP hr2 rfl (pa_cons (pv 0) (pa_cons (pv 3) pa_nil))) (pa_cons (pe_c cP hr2 rfl (pa_cons (pv 0) (pa_cons (pv 3) pa_nil))) pa_nil)))))) pss_nil)
    (pss_cons (ps_if (pt_cmpR op_in_seq (pv 6) (pe_lst (pa_cons pe_str (pa_cons pe_str pa_nil))) (by rfl)) (pss_one (ps_ret (pe_tup (pa_cons (pv 6) (pa_cons (pe_c cP hr2 rfl (pa_cons (pv 0) (pa_cons (pv 3) pa_nil))) (pa_cons (pe_c cD hr1 rfl (pa_cons (pv 0) (pa_cons (pv 4) pa_nil))) (pa_cons (pe_c cP hr2 rfl (pa_cons (pv 0) (pa_cons (pv 3) pa_nil))) pa_nil))))))) pss_nil)
    (pss_one (ps_ret (pe_ifExp (pt_cmpR op_eq (pv 6) pe_str (nomark _)) (pe_tup (pa_cons pe_str (pa_cons (pe_c cP hr2 rfl (pa_cons (pv 0) (pa_cons (pv 3) pa_nil))) pa_nil))) (pe_tup (pa_cons pe_str pa_nil))))))))))))), ?_⟩
    walk_at "wp"
    refine ⟨p, ka, ks.map V.str, rfl, hP, .inl ⟨hk, hkp⟩, by rw [List.length_map]; exact List.length_pos_iff.mpr hkn, fun x H1 hx g1 => ?_⟩
    obtain ⟨z, _, rfl⟩ := List.mem_map.mp hx
    have hW1 := g1.tup hP hW
    walk_at "wp"
    -- a word of the registers
    have pickW : ∀ (G : Hp) (Q' : VK), Gr p H G → (∀ (u : Str) G', u ∈ ws → Gr p H G' → Same G G' ∨ Gr p G G' → Q' (.str u) G') → spPick K [.ref p, .ref wa] G Q' E0 := fun G Q' g q =>
      ⟨p, wa, ws.map V.str, rfl, g.pool, .inr (g.tup hP hW), by rw [List.length_map]; exact List.length_pos_iff.mpr hne, fun x G' hx g' => by
        obtain ⟨u, hu, rfl⟩ := List.mem_map.mp hx
        exact q u G' hu (g.trans g') (.inr g')⟩
    have draw : ∀ (G : Hp) (m : Int) (Q' : VK), Gr p H G → 0 < m → (∀ v G', 0 ≤ v → v < m → Gr p H G' → Gr p G G' → Q' (.int v) G') → spDraw [.ref p, .int m] G Q' E0 := fun G m Q' g hm q => ⟨p, m, rfl, g.pool, hm, fun v G' v0 v1 g' => q v G' v0 v1 (g.trans g') g'⟩
    have made : ∀ (r : RowD) (G : Hp), Gr p H G → r.Ok ws size many → ∀ q, G q = none → Q (.ref q) (upd G q (.tup r.vals)) := fun r G g hok q hq => k q r _ (g.trans (Gr.new g.pool hq)) (SqT.of upd_same) hok
    refine ⟨rfl, ite2 (fun _ => ?_) fun _ => ⟨rfl, ite2 (fun _ => ?_) fun _ => ⟨rfl, ite2 (fun _ => ?_) fun _ => ⟨rfl, ite2 (fun _ => ?_) fun _ => ⟨rfl, ite2 (fun _ => ?_) fun _ => ?_⟩⟩⟩⟩⟩
    · exact ⟨p, wa, index, many, size, ws, rfl, g1.pool, i0, i1, hW1, hne, hs, fun t r G g ht hok => k t r G (g1.trans g) ht hok⟩
    · exact draw _ _ _ g1 (by omega) fun v G v0 v1 g _ => ⟨by decide, made (.go v) G g ⟨v0, by omega⟩⟩
    · refine ⟨by decide, fun q hq => ?_⟩
      have g2 := g1.trans (Gr.new (o := .lst [.str "g", .str "h"]) g1.pool hq)
      refine ⟨p, q, [.str "g", .str "h"], rfl, g2.pool, .inl ⟨SqL.of upd_same, (g1.pool.ne_none hq).symm⟩, by decide, fun x G hx g => ?_⟩
      have g3 := g2.trans g
      refine draw _ _ _ g3 (by omega) fun v G1 v0 v1 g4 _ => ⟨by decide, fun q2 hq2 => ?_⟩
      have g5 := g4.trans (Gr.new (o := .lst [.non, .int v]) g4.pool hq2)
      refine draw _ _ _ g5 (by decide) fun u G2 u0 u1 g6 g7 => ?_
      have hx' : x = .str "g" ∨ x = .str "h" := by simpa using hx
      obtain ⟨gw, rfl, hgw⟩ : ∃ gw : Str, x = .str gw ∧ (gw = "g" ∨ gw = "h") := by
        rcases hx' with e | e
        · exact ⟨_, e, .inl rfl⟩
        · exact ⟨_, e, .inr rfl⟩
      have hl : SqL K G2 q2 [.non, .int v] := g7.lst (g4.pool.ne_none hq2).symm (SqL.of upd_same)
      have hu : u = 0 ∨ u = 1 := by omega
      rcases hu with rfl | rfl
      · exact ⟨_, 0, rfl, hl, .non, rfl, by decide, made (.group gw none) G2 g6 ⟨hgw, fun i h => nomatch h⟩⟩
      · exact ⟨_, 1, rfl, hl, .int v, rfl, by decide, made (.group gw (some v)) G2 g6 ⟨hgw, fun i h => by cases h; exact ⟨v0, v1⟩⟩⟩
    · refine ⟨by decide, fun q hq => ?_⟩
      have g2 := g1.trans (Gr.new (o := .lst [.str "m", .str "n"]) g1.pool hq)
      refine ⟨p, q, [.str "m", .str "n"], rfl, g2.pool, .inl ⟨SqL.of upd_same, (g1.pool.ne_none hq).symm⟩, by decide, fun x G hx g => ⟨by decide, ?_⟩⟩
      have hx' : x = .str "m" ∨ x = .str "n" := by simpa using hx
      obtain ⟨gw, rfl, hgw⟩ : ∃ gw : Str, x = .str gw ∧ (gw = "m" ∨ gw = "n") := by
        rcases hx' with e | e
        · exact ⟨_, e, .inl rfl⟩
        · exact ⟨_, e, .inr rfl⟩
      exact made (.meet gw) G (g2.trans g) hgw
    · exact pickW _ _ g1 fun u G hu g _ => draw _ _ _ g hs fun v G1 v0 v1 g2 _ => ⟨by decide, made (.set u v) G1 g2 ⟨hu, v0, v1⟩⟩
    · have two : ∀ (a b : Str) (G : Hp) (R : Bool → Hp → Prop), Gr p H G → (∀ G', Gr p H G' → (z = a ∨ z = b) → R true G') → (∀ G', Gr p H G' → R false G') →
          2 ≤ sizeLine ∧ ∀ q, G q = none → rIn K false (.str z) (.ref q) (upd G q (.lst [.str a, .str b])) (fun x H' => ∃ k, x = V.bl k ∧ R k H') := fun a b G R g r1 r0 => by
        refine ⟨by decide, fun q hq => ⟨q, _, rfl, .inl (SqL.of upd_same), rfl, rfl, inV (.str z) [.str a, .str b], rfl, ?_⟩⟩
        have g2 := g.trans (Gr.new (o := .lst [.str a, .str b]) g.pool hq)
        cases e : inV (.str z) [.str a, .str b] with
        | true => exact r1 _ g2 (inV_two e)
        | false => exact r0 _ g2
      refine two "copy" "same" H1 _ g1 (fun G g hz => iteT ?_) fun G g => iteF ?_
      · refine pickW _ _ g fun u G1 hu g2 _ => pickW _ _ g2 fun v G2 hv g3 _ => ⟨by decide, ?_⟩
        rcases hz with rfl | rfl
        · exact made (.copy u v) G2 g3 ⟨hu, hv⟩
        · exact made (.same u v) G2 g3 ⟨hu, hv⟩
      · refine two "any" "all" G _ g (fun G g hz => iteT ?_) fun G g => iteF ?_
        · refine pickW _ _ g fun u G1 hu g2 _ => draw _ _ _ g2 hs fun x G2 x0 x1 g3 _ => pickW _ _ g3 fun v G3 hv g4 _ => ⟨by decide, ?_⟩
          rcases hz with rfl | rfl
          · exact made (.any u x v) G3 g4 ⟨hu, ⟨x0, x1⟩, hv⟩
          · exact made (.all u x v) G3 g4 ⟨hu, ⟨x0, x1⟩, hv⟩
        · refine ⟨rfl, ite2 (fun _ => ?_) fun _ => ?_⟩
          · exact pickW _ _ g fun u G1 hu g2 _ => ⟨by decide, made (.take u) G1 g2 hu⟩
          · exact ⟨by decide, made .fin G g True.intro⟩
end
end YY

set_option maxRecDepth 100000
set_option maxHeartbeats 4000000
namespace YY
open PySem PySem.Spec PyProof.Rows L2 XX
local macro_rules | `(tactic| walk_at "wp") => `(tactic| simp only [tSeq, tNext, tAsg, tPar, gName, tCB, tCons, tNil, tVar, tC, tOp, tUn, rI, rI0, rU, tLst, tTup, tFor_eq, iRng1, iRng2, iList, iTup, tRet, tRetN, tDrop, tIfS, tTest, tB, tAnd, tOr, tNot, tIf, tAndV, tOrV, tNotV, tCall, tBM, tBM0, rIxL, rIxT, rAppend, tLc_eq, gSub, rSetL, rEq, rNe, rMulS, rIxS, tRevT, gTup, gCons, gNil, wipe, tYes, LcEnd, tDisp, tPairs, tChain, tSl, tPart, tNoPart, rSlT, rSlL, rCatT, rCat, rRep, rIsD, V.ty.injEq, iZipB, tXf, wMA, wAs, rLenK, tLenSetS, rReprE, tVeI, tOst, tErr, tMkO, sFld, tFld, rIsE2, tMakeS, rListStr, tDNotIn, tDGet, rSetD, gSub, iEnumA, rIxD, iStr,
  cxOf_K, cxOf_noxK, L2.start, List.map_cons, List.map_nil, List.length_cons, List.length_nil, Nat.reduceAdd, Nat.reduceSub, List.replicate_succ, List.replicate_zero, List.replicate, List.cons_append, List.nil_append, List.getElem?_cons_zero, List.getElem?_cons_succ, List.set_cons_zero, List.set_cons_succ, List.append_nil,
  Option.some.injEq, V.int.injEq, V.ref.injEq, V.bl.injEq, V.str.injEq, List.cons.injEq, and_true, true_and, exists_eq_left', exists_eq_left, exists_and_left, exists_and_right, exists_const, bool_ite_true, bool_ite_false, dec_ite, ndec_ite, reduceCtorEq, false_or, or_false, false_and, and_false, decide_eq_true_eq, and_assoc, reduceIte, ite_true, ite_false, Int.zero_add])

/-- tuples at these addresses hold these rows -/
inductive RowsAt (K : PySem.W.Frag) (H : Hp) : List V → List RowD → Prop
  | nil : RowsAt K H [] []
  | cons {t : Addr} {r : RowD} {as : List V} {rs : List RowD} : SqT K H t r.vals → RowsAt K H as rs → RowsAt K H (.ref t :: as) (r :: rs)
theorem RowsAt.imp {K : PySem.W.Frag} {H H' : Hp} (f : ∀ t xs, SqT K H t xs → SqT K H' t xs) : ∀ {as : List V} {rs : List RowD}, RowsAt K H as rs → RowsAt K H' as rs
  | _, _, .nil => .nil
  | _, _, .cons h t => .cons (f _ _ h) (RowsAt.imp f t)
theorem RowsAt.app {K : PySem.W.Frag} {H : Hp} {t : Addr} {r : RowD} (h : SqT K H t r.vals) : ∀ {as : List V} {rs : List RowD}, RowsAt K H as rs → RowsAt K H (as ++ [.ref t]) (rs ++ [r])
  | _, _, .nil => .cons h .nil
  | _, _, .cons h' t' => .cons h' (RowsAt.app h t')
theorem RowsAt.len {K : PySem.W.Frag} {H : Hp} : ∀ {as : List V} {rs : List RowD}, RowsAt K H as rs → as.length = rs.length
  | _, _, .nil => rfl
  | _, _, .cons _ t => congrArg Nat.succ t.len
structure PlanD where
  rows : List RowD
  words : List Str
  size : Int
structure PlanD.Ok (pl : PlanD) (top : Int) : Prop where
  least : 2 ≤ pl.rows.length
  most : (pl.rows.length : Int) ≤ top
  words : WordsOk pl.words
  size2 : 2 ≤ pl.size
  size3 : pl.size ≤ 3
  rows : ∀ r ∈ pl.rows, r.Ok pl.words pl.size pl.rows.length
def planKV (ra wa : Addr) (size : Int) : List (Key × V) := [(.inr "rows", .ref ra), (.inr "words", .ref wa), (.inr "size", .int size)]
/-- the dict at d holds the plan -/
def PlanAt (K : PySem.W.Frag) (H : Hp) (d : Addr) (pl : PlanD) : Prop := ∃ (ra wa : Addr) (as : List V), H d = some (.dK (planKV ra wa pl.size)) ∧ SqT K H ra as ∧ RowsAt K H as pl.rows ∧ SqT K H wa (pl.words.map V.str)
theorem sqT_mut {K : PySem.W.Frag} {H : Hp} {a D : Addr} {xs ys : List V} {o : HO} (h : SqT K H a xs) (e : H D = some (.lst ys)) : SqT K (upd H D o) a xs := by
  rcases h with (h | ⟨ob, h⟩) | h
  · exact .inl (.inl (by rw [upd_ne (ne_of h e (by intro z; cases z))]; exact h))
  · exact .inl (.inr ⟨ob, by rw [upd_ne (ne_of h e (by intro z; cases z))]; exact h⟩)
  · exact .inr h
theorem ixN_zero (n : Nat) : ixN (n + 1) 0 = some 0 := by
  unfold ixN
  rw [if_pos (Int.le_refl 0), if_pos (by omega)]
  rfl
theorem merge_plan (ra wa : Addr) (size : Int) : mergeK [] (planKV ra wa size) = planKV ra wa size := by
  have k1 : ¬ ("rows" : Str) = "words" := by decide +kernel
  have k2 : ¬ ("rows" : Str) = "size" := by decide +kernel
  have k3 : ¬ ("words" : Str) = "size" := by decide +kernel
  have h1 : ¬ (Sum.inr ("rows" : Str) : Key) = (Sum.inr ("words" : Str) : Key) := fun z => k1 (Sum.inr.inj z)
  have h2 : ¬ (Sum.inr ("rows" : Str) : Key) = (Sum.inr ("size" : Str) : Key) := fun z => k2 (Sum.inr.inj z)
  have h3 : ¬ (Sum.inr ("words" : Str) : Key) = (Sum.inr ("size" : Str) : Key) := fun z => k3 (Sum.inr.inj z)
  simp [mergeK, planKV, putK, h1, h2, h3]
section
variable {P : Program} {w : World} {K : PySem.W.Frag} {mg : Str → Option Value} {base : Heap}
def spPlan (K : PySem.W.Frag) : Sp := fun vs H Q _ => ∃ (p : Addr) (top : Int) (plain : Bool), vs = [.ref p, .int top, .bl plain] ∧ Pool H p ∧ 2 ≤ top ∧ top ≤ 24 ∧ ∀ (d : Addr) (pl : PlanD) H', Gr p H H' → H d = none → PlanAt K H' d pl → pl.Ok top → Q (.ref d) H'
theorem scPlan : FnScope ["pool", "top", "plain", "words", "size", "kinds", "many", "rows", "index"] ["pool", "top", "plain"] (defScope sPlan) := ⟨rfl, rfl, rfl, by decide +kernel, rfl, by decide +kernel, by decide +kernel⟩
theorem c_plan (D : Def K mg "_law_plan" sPlan ["pool", "top", "plain"]) (T : Bl mg) (n_tuple : mg "tuple" = none) (cD : FnC P w K mg base CX0 1 "_law_draw" ["pool", "many"] spDraw) (cW : FnC P w K mg base CX0 2 "_law_words" ["pool"] (spWords K))
    (cR : FnC P w K mg base CX0 4 "_law_row" ["pool", "index", "many", "words", "size", "kinds"] (spRow K)) : FnC P w K mg base CX0 5 "_law_plan" ["pool", "top", "plain"] (spPlan K) := by
  refine D.ok scPlan (fun vs H Q E h => ?_) (fun f cdv A outer s H vs Q E hr h => ?_)
  · obtain ⟨p, top, plain, rfl, _⟩ := h
    rfl
  · obtain ⟨p, top, plain, rfl, hP, t2, t24, k⟩ := h
    have sc := scPlan
    have hr1 : Room 1 _ := hr.mono (by decide)
    have hr2 : Room 2 _ := hr.mono (by decide)
    refine ⟨_, (pss_cut (ps_asg (pe_tup (pa_cons (pe_c cW hr2 rfl (pa_cons (pv 0) pa_nil)) (pa_cons (pe_op op_add pe_int (pe_callTy call_int1 (by rfl) T.n_int (by decide +kernel) (pa_cons (pe_cmpR op_eq (pe_c cD hr1 rfl (pa_cons (pv 0) (pa_cons pe_int pa_nil))) pe_int (nomark _)) pa_nil))) pa_nil)))
        (pg_tup rfl (pgs_cons (pg_name (i := 3) sc.nd rfl (Or.inr rfl)) (pgs_cons (pg_name (i := 4) sc.nd rfl (Or.inr rfl)) pgs_nil))))
    (pss_cut (ps_set (i := 5) sc.nd rfl (Or.inr rfl) (pe_lst (pa_cons pe_str (pa_cons pe_str (pa_cons pe_str (pa_cons pe_str (pa_cons pe_str (pa_cons pe_str (pa_cons pe_str (pa_cons pe_str (pa_cons pe_str (pa_cons pe_str (pa_cons pe_str (pa_cons pe_str (pa_cons pe_str pa_nil)))))))))))))))
    (pss_cut (ps_set (i := 5) sc.nd rfl (Or.inr rfl) (pe_op op_cat (pv 5) (pe_ifExp (pt_cmpR op_eq (pe_c cD hr1 rfl (pa_cons (pv 0) (pa_cons pe_int pa_nil))) pe_int (nomark _)) (pe_lst (pa_cons pe_str pa_nil)) (pe_lst pa_nil))))
    (pss_cut (ps_set (i := 5) sc.nd rfl (Or.inr rfl) (pe_ifExp (pt_val (pv 2)) (pv 5) (pe_op op_cat (pv 5) (pe_lst (pa_cons pe_str (pa_cons pe_str (pa_cons pe_str (pa_cons pe_str pa_nil))))))))
    (pss_cons (ps_set (i := 6) sc.nd rfl (Or.inr rfl) (pe_op op_add pe_int (pe_c cD hr1 rfl (pa_cons (pv 0) (pa_cons (pe_op op_sub (pv 1) pe_int) pa_nil)))))
    (pss_cut (ps_setLc (i := 7) (own := [("index", 8)]) (g := gName 8) (tt := tYes) rfl sc.nd rfl rfl (sw_true rfl rfl rfl (by decide +kernel)) (pi_range1 (by rfl) T.n_range (pa_cons (pv 6) pa_nil)) (blkOk_by (N := ["pool", "top", "plain", "words", "size", "kinds", "many", "rows", "index"]) (sc := defScope sPlan) (by decide +kernel))
        (fun _ _ _ _ _ => (pg_name (i := 8) sc.nd rfl (Or.inl rfl))) (fun _ _ _ _ _ => pts_nil) (fun _ _ _ _ _ => (pe_c cR hr rfl (pa_cons (pv 0) (pa_cons (pv 8) (pa_cons (pv 6) (pa_cons (pv 3) (pa_cons (pv 4) (pa_cons (pv 5) pa_nil)))))))))
    (pss_cut (ps_if (pt_cmpR op_gt (pe_c cD hr1 rfl (pa_cons (pv 0) (pa_cons pe_int pa_nil))) pe_int (nomark _)) (pss_one (ps_asg (pe_tup (pa_cons pe_str (pa_cons (pe_ix ix_tup (pv 3) pe_int (fun _ _ => rfl)) pa_nil))) (pg_sub (pv 7) pe_int set_list))) pss_nil)
    (pss_one (ps_ret (pe_disp (pps_cons pe_str (pe_callTy call_tuple_of (by rfl) n_tuple (by decide +kernel) (pa_cons (pv 7) pa_nil)) (pps_cons pe_str (pv 3) (pps_cons pe_str (pv 4) pps_nil))) rfl rfl (by decide) (by decide))))))))))), ?_⟩
    -- the words and the number of values
    refine ⟨fun τ G => ∃ (wa : Addr) (ws : List Str) (size : Int), τ = [some (.ref p), some (.int top), some (.bl plain), some (.ref wa), some (.int size), none, none, none, none] ∧ Gr p H G ∧ SqT K G wa (ws.map V.str) ∧ WordsOk ws ∧ 2 ≤ size ∧ size ≤ 3, ?_, ?_⟩
    · walk_at "wp"
      refine ⟨p, rfl, hP, fun wa ws G1 g1 hw hok => ⟨p, 3, rfl, g1.pool, by decide, fun v G2 v0 v1 g2 => ⟨rfl, by decide, fun q hq => ?_⟩⟩⟩
      have g3 : Gr p H (upd G2 q (.tup [.ref wa, .int (2 + if V.int v = V.int 0 then 1 else 0)])) := (g1.trans g2).trans (Gr.new g2.pool hq)
      refine ⟨_, SqT.of upd_same, rfl, _, _, rfl, _, _, rfl, rfl, wa, rfl, ws, _, rfl, g3, sqT_new (g2.tup g1.pool hw) hq, hok, ?_, ?_⟩
      · split <;> omega
      · split <;> omega
    rintro τ G ⟨wa, ws, size, rfl, g0, hw, hok, s2, s3⟩
    -- the kinds
    have cat : ∀ (G2 : Hp) (ka : Addr) (ks more : List Str) (m : Nat), Gr p H G2 → SqT K G2 wa (ws.map V.str) → G2 ka = some (.lst (ks.map V.str)) → ka ≠ p → ks ≠ [] → ks.length + more.length ≤ m → m ≤ 20 → ∀ q, G2 q = none →
        ∃ x, upd G2 q (.lst (more.map V.str)) ka = some (.lst x) ∧ ∃ x1, upd G2 q (.lst (more.map V.str)) q = some (.lst x1) ∧ x.length + x1.length ≤ sizeLine ∧ ∀ r, upd G2 q (.lst (more.map V.str)) r = none →
          Gr p H (upd (upd G2 q (.lst (more.map V.str))) r (.lst (x ++ x1))) ∧ SqT K (upd (upd G2 q (.lst (more.map V.str))) r (.lst (x ++ x1))) wa (ws.map V.str) ∧
            ∃ ks' : List Str, upd (upd G2 q (.lst (more.map V.str))) r (.lst (x ++ x1)) r = some (.lst (ks'.map V.str)) ∧ r ≠ p ∧ ks' ≠ [] ∧ ks'.length ≤ m := fun G2 ka ks more m g hw hk hkp hne hl hm q hq => by
      refine ⟨ks.map V.str, by rw [upd_ne (ne_of_none hk hq)]; exact hk, more.map V.str, upd_same, by rw [List.length_map, List.length_map, sizeLine_eq]; omega, fun r hr => ?_⟩
      have g1 := g.trans (Gr.new (o := .lst (more.map V.str)) g.pool hq)
      exact ⟨g1.trans (Gr.new g1.pool hr), sqT_new (sqT_new hw hq) hr, ks ++ more, by rw [upd_same, List.map_append], (g1.pool.ne_none hr).symm, by simp [hne], by rw [List.length_append]; exact hl⟩
    refine ⟨fun τ G => ∃ (ka : Addr) (ks : List Str), τ = [some (.ref p), some (.int top), some (.bl plain), some (.ref wa), some (.int size), some (.ref ka), none, none, none] ∧
        Gr p H G ∧ SqT K G wa (ws.map V.str) ∧ G ka = some (.lst (ks.map V.str)) ∧ ka ≠ p ∧ ks ≠ [] ∧ ks.length ≤ 13, ?_, ?_⟩
    · walk_at "wp"
      exact ⟨by decide, fun q hq => ⟨g0.trans (Gr.new g0.pool hq), sqT_new hw hq, (["take", "take", "take", "if", "if", "if", "if", "group", "group", "set", "go", "meet", "copy"] : List Str), upd_same, (g0.pool.ne_none hq).symm, by simp, by decide⟩⟩
    rintro τ G1 ⟨ka, ks, rfl, g1, hw1, hk1, nkp1, kne1, kl1⟩
    refine ⟨fun τ G => ∃ (ka : Addr) (ks : List Str), τ = [some (.ref p), some (.int top), some (.bl plain), some (.ref wa), some (.int size), some (.ref ka), none, none, none] ∧
        Gr p H G ∧ SqT K G wa (ws.map V.str) ∧ G ka = some (.lst (ks.map V.str)) ∧ ka ≠ p ∧ ks ≠ [] ∧ ks.length ≤ 14, ?_, ?_⟩
    · walk_at "wp"
      refine ⟨p, 3, rfl, g1.pool, by decide, fun v G2 v0 v1 g2 => ⟨rfl, ?_⟩⟩
      have hk2 : G2 ka = some (.lst (ks.map V.str)) := g2.keep _ _ nkp1 hk1
      have hw2 := g2.tup g1.pool hw1
      refine ite2 (fun _ => ⟨by decide, ?_⟩) fun _ => ⟨by decide, ?_⟩
      · exact cat G2 ka ks ["end"] 14 (g1.trans g2) hw2 hk2 nkp1 kne1 (by show ks.length + 1 ≤ 14; omega) (by decide)
      · exact cat G2 ka ks [] 14 (g1.trans g2) hw2 hk2 nkp1 kne1 (by show ks.length + 0 ≤ 14; omega) (by decide)
    clear g1 hw1 hk1 nkp1 kne1 kl1
    rintro τ G1 ⟨ka, ks, rfl, g1, hw1, hk1, nkp1, kne1, kl1⟩
    refine ⟨fun τ G => ∃ (ka : Addr) (ks : List Str), τ = [some (.ref p), some (.int top), some (.bl plain), some (.ref wa), some (.int size), some (.ref ka), none, none, none] ∧
        Gr p H G ∧ SqT K G wa (ws.map V.str) ∧ G ka = some (.lst (ks.map V.str)) ∧ ka ≠ p ∧ ks ≠ [] ∧ ks.length ≤ 18, ?_, ?_⟩
    · walk_at "wp"
      refine ite2 (fun _ => ?_) fun _ => ⟨by decide, ?_⟩
      · exact ⟨g1, hw1, ks, hk1, nkp1, kne1, by omega⟩
      · exact cat G1 ka ks ["any", "all", "same", "any"] 18 g1 hw1 hk1 nkp1 kne1 (by show ks.length + 4 ≤ 18; omega) (by decide)
    clear g1 hw1 hk1 nkp1 kne1 kl1
    rintro τ G1 ⟨ka, ks, rfl, g1, hw1, hk1, nkp1, kne1, kl1⟩
    walk_at "wp"
    refine ⟨p, top - 1, rfl, g1.pool, by omega, fun m G2 m0 m1 g2 => ?_⟩
    walk_at "wp"
    have hk2 : G2 ka = some (.lst (ks.map V.str)) := g2.keep _ _ nkp1 hk1
    have hw2 := g2.tup g1.pool hw1
    have g12 := g1.trans g2
    -- the rows
    refine ⟨fun τ G => ∃ (D : Addr) (as : List V) (rs : List RowD), τ = [some (.ref p), some (.int top), some (.bl plain), some (.ref wa), some (.int size), some (.ref ka), some (.int (2 + m)), some (.ref D), none] ∧
        Gr p H G ∧ H D = none ∧ SqT K G wa (ws.map V.str) ∧ G D = some (.lst as) ∧ RowsAt K G as rs ∧ (rs.length : Int) = 2 + m ∧ ∀ r ∈ rs, r.Ok ws size (2 + m), ?_, ?_⟩
    · walk_at "wp"
      refine ⟨by omega, by omega, ?_⟩
      refine lcw_it (walk_range (lo := 0)) (fun D i G => Gr p H G ∧ SqT K G wa (ws.map V.str) ∧ G ka = some (.lst (ks.map V.str)) ∧ ∃ (as : List V) (rs : List RowD), G D = some (.lst as) ∧ RowsAt K G as rs ∧ rs.length = i ∧ ∀ r ∈ rs, r.Ok ws size (2 + m))
        (fun D hD => ⟨g12.trans (Gr.new g2.pool hD), sqT_new hw2 hD, by rw [upd_ne (ne_of_none hk2 hD)]; exact hk2, [], [], upd_same, .nil, rfl, fun r h => (nomatch h)⟩) (fun _ _ _ _ _ => True.intro) ?_ ?_
      · rintro D i x G G' hD hi ⟨g3, hw3, hk3, as, rs, h1, h2, h3, h4⟩ ⟨rfl, rfl⟩
        walk_at "wp"
        have nDp : D ≠ p := (g2.pool.ne_none hD).symm
        refine ⟨p, wa, ka, i, 2 + m, size, ws, ks, rfl, g3.pool, by omega, by omega, hw3, ?_, by omega, SqL.of hk3, nkp1, kne1, fun t r G4 g4 ht hok => ?_⟩
        · intro e
          have := hok.least
          rw [e] at this
          simp at this
        have h1' : G4 D = some (.lst as) := g4.keep D _ nDp h1
        have hl := h2.len
        refine ⟨as, h1', by rw [hl, h3, sizeLine_eq]; omega, (g3.trans g4).mut hP (g12.free hP hD), sqT_mut (g4.tup g3.pool hw3) h1', ?_, as ++ [.ref t], upd_same, rs ++ [r], RowsAt.app (sqT_mut ht h1') (h2.imp fun t xs h => sqT_mut (g4.tup g3.pool h) h1'), by rw [List.length_append, h3]; rfl, fun r' hr' => ?_⟩
        · rw [upd_ne (ne_of_none hk2 hD)]
          exact g4.keep ka _ nkp1 hk3
        · rcases List.mem_append.mp hr' with h | h
          · exact h4 r' h
          · rw [List.mem_singleton.mp h]
            exact hok
      · rintro D G hD ⟨g3, hw3, hk3, as, rs, h1, h2, h3, h4⟩
        exact ⟨D, rfl, g3, g12.free hP hD, hw3, as, h1, rs, h2, by omega, h4⟩
    clear hk2 hw2
    rintro τ G3 ⟨D, as, rs, rfl, g3, hD, hw3, h1, h2, h3, h4⟩
    refine ⟨fun τ G => ∃ (as : List V) (rs : List RowD), τ = [some (.ref p), some (.int top), some (.bl plain), some (.ref wa), some (.int size), some (.ref ka), some (.int (2 + m)), some (.ref D), none] ∧
        Gr p H G ∧ SqT K G wa (ws.map V.str) ∧ G D = some (.lst as) ∧ RowsAt K G as rs ∧ (rs.length : Int) = 2 + m ∧ ∀ r ∈ rs, r.Ok ws size (2 + m), ?_, ?_⟩
    · walk_at "wp"
      refine ⟨p, 4, rfl, g3.pool, by decide, fun v G4 v0 v1 g4 => ⟨v, rfl, ?_⟩⟩
      have nDp : D ≠ p := (hP.ne_none hD).symm
      have h1' : G4 D = some (.lst as) := g4.keep D _ nDp h1
      have hw4 := g4.tup g3.pool hw3
      have h2' : RowsAt K G4 as rs := h2.imp fun t xs h => g4.tup g3.pool h
      refine ite2 (fun _ => ?_) fun _ => ⟨g3.trans g4, hw4, as, h1', rs, h2', h3, h4⟩
      obtain ⟨w0, wr, ew⟩ : ∃ w0 wr, ws = w0 :: wr := by
        cases ws with
        | nil => exact absurd hok.least (by simp)
        | cons a b => exact ⟨a, b, rfl⟩
      refine ⟨_, hw4, .str w0, by rw [ew]; exact at_of (j := 0) rfl rfl, by decide, fun q hq => ?_⟩
      have hDq : upd G4 q (.tup [.str "take", .str w0]) D = some (.lst as) := by rw [upd_ne (ne_of_none h1' hq)]; exact h1'
      cases h2' with
      | nil =>
        simp at h3
        omega
      | @cons t0 r0 as rs ht0 hrest =>
        refine ⟨_, hDq, 0, ixN_zero _, ?_⟩
        refine ⟨((g3.trans g4).trans (Gr.new g4.pool hq)).mut hP hD, sqT_mut (sqT_new hw4 hq) hDq, _, upd_same, .take w0 :: rs, .cons (sqT_mut (SqT.of upd_same) hDq) (hrest.imp fun t xs h => sqT_mut (sqT_new h hq) hDq), h3, fun r hr => ?_⟩
        rcases List.mem_cons.mp hr with e | hr
        · rw [e]
          show w0 ∈ ws
          rw [ew]
          exact List.mem_cons_self ..
        · exact h4 r (List.mem_cons_of_mem _ hr)
    clear h1 h2 h3 h4 hw3 g3
    rintro τ G3 ⟨as, rs, rfl, g3, hw3, h1, h2, h3, h4⟩
    walk_at "wp"
    intro d hd
    have hDd : upd G3 d (.dK []) D = some (.lst as) := by rw [upd_ne (ne_of_none h1 hd)]; exact h1
    refine ⟨as, .inl ⟨SqL.of hDd, fun l hl => ?_⟩⟩
    have ndl : d ≠ l := fun z => by
      rw [← z, upd_same] at hl
      cases hl
    refine ⟨by rw [upd_ne ndl, upd_same], planKV l wa size, rfl, (by show 3 ≤ 15; decide), ?_⟩
    rw [merge_plan]
    have hl3 : G3 l = none := by
      rw [upd_ne ndl.symm] at hl
      exact hl
    have e : upd (upd (upd G3 d (.dK [])) l (.tup as)) d (.dK (planKV l wa size)) = upd (upd G3 l (.tup as)) d (.dK (planKV l wa size)) := by
      funext b
      by_cases hb : b = d
      · rw [hb, upd_same, upd_same]
      · rw [upd_ne hb, upd_ne hb]
        by_cases hc : b = l
        · rw [hc, upd_same, upd_same]
        · rw [upd_ne hc, upd_ne hc, upd_ne hb]
    rw [e]
    have hd3 : upd G3 l (.tup as) d = none := by rw [upd_ne ndl]; exact hd
    have g4 := g3.trans (Gr.new (o := .tup as) g3.pool hl3)
    refine k d ⟨rs, ws, size⟩ _ (g4.trans (Gr.new g4.pool hd3)) (g3.free hP hd) ⟨l, wa, as, upd_same, sqT_new (SqT.of upd_same) hd3, h2.imp fun t xs h => sqT_new (sqT_new h hl3) hd3, sqT_new (sqT_new hw3 hl3) hd3⟩ ⟨by show 2 ≤ rs.length; omega, by show (rs.length : Int) ≤ top; omega, hok, s2, s3, fun r hr => ?_⟩
    show r.Ok ws size rs.length
    rw [h3]
    exact h4 r hr
end
end YY

set_option maxRecDepth 100000
set_option maxHeartbeats 4000000
namespace YY
open PySem PySem.Spec PyProof.Rows L2 XX
local macro_rules | `(tactic| walk_at "wp") => `(tactic| simp only [tSeq, tNext, tAsg, tPar, gName, tCB, tCons, tNil, tVar, tC, tOp, tUn, rI, rI0, rU, tLst, tTup, tFor_eq, iRng1, iRng2, iList, iTup, tRet, tRetN, tDrop, tIfS, tTest, tB, tAnd, tOr, tNot, tIf, tAndV, tOrV, tNotV, tCall, tBM, tBM0, rIxL, rIxT, rAppend, tLc_eq, gSub, rSetL, rEq, rNe, rMulS, rIxS, tRevT, gTup, gCons, gNil, wipe, tYes, LcEnd, tDisp, tPairs, tChain, tSl, tPart, tNoPart, rSlT, rSlL, rCatT, rCat, rRep, rIsD, V.ty.injEq, iZipB, tDNewK, tXf, wMA, wAs, rLenK, tLenSetS, rReprE, tVeI, tOst, tErr, tMkO, sFld, tFld, rIsE2, tMakeS, rListStr, tDNotIn, tDGet, rSetD, gSub, iEnumA, rIxD, iStr,
  cxOf_K, cxOf_noxK, L2.start, List.map_cons, List.map_nil, List.length_cons, List.length_nil, Nat.reduceAdd, Nat.reduceSub, List.replicate_succ, List.replicate_zero, List.replicate, List.cons_append, List.nil_append, List.getElem?_cons_zero, List.getElem?_cons_succ, List.set_cons_zero, List.set_cons_succ, List.append_nil,
  Option.some.injEq, V.int.injEq, V.ref.injEq, V.bl.injEq, V.str.injEq, List.cons.injEq, and_true, true_and, exists_eq_left', exists_eq_left, exists_and_left, exists_and_right, exists_const, bool_ite_true, bool_ite_false, dec_ite, ndec_ite, reduceCtorEq, false_or, or_false, false_and, and_false, decide_eq_true_eq, and_assoc, reduceIte, ite_true, ite_false, Int.zero_add])

theorem Same.sqL {K : PySem.W.Frag} {H H' : Hp} {a : Addr} {xs : List V} (e : Same H H') (h : SqL K H a xs) : SqL K H' a xs := by
  rcases h with (h | ⟨o, h⟩) | h
  · exact .inl (.inl (e _ _ h))
  · exact .inl (.inr ⟨o, e _ _ h⟩)
  · exact .inr h
mutual
theorem dp_same {K : PySem.W.Frag} {H H' : Hp} (e : Same H H') : ∀ (d : PyData) (v : V), Dp K H v d → Dp K H' v d
  | .none, _, h => by
    cases h
    exact .non
  | .bool b, _, h => by
    cases h
    exact .bl b
  | .int i, _, h => by
    cases h
    exact .int i
  | .str x, _, h => by
    cases h
    exact .str x
  | .list ds, _, h => by
    cases h with
    | lst hs ha => exact .lst (Same.sqL e hs) (dps_same e ds _ ha)
  | .tuple ds, _, h => by
    cases h with
    | tup hs ha => exact .tup (Same.sqT e hs) (dps_same e ds _ ha)
  | .dict _, _, h => nomatch h
theorem dps_same {K : PySem.W.Frag} {H H' : Hp} (e : Same H H') : ∀ (ds : List PyData) (vs : List V), DpAll K H vs ds → DpAll K H' vs ds
  | [], _, h => by
    cases h
    exact .nil
  | d :: ds, _, h => by
    cases h with
    | cons h1 h2 => exact .cons (dp_same e d _ h1) (dps_same e ds _ h2)
end
theorem dpAll_len {K : PySem.W.Frag} {H : Hp} : ∀ {vs : List V} {ds : List PyData}, DpAll K H vs ds → vs.length = ds.length
  | [], _, h => by
    cases h
    rfl
  | v :: vs, _, h => by
    cases h with
    | cons h1 h2 => rw [List.length_cons, List.length_cons, dpAll_len h2]
theorem dpAll_get {K : PySem.W.Frag} {H : Hp} : ∀ {vs : List V} {ds : List PyData} (h : DpAll K H vs ds) {i : Nat} {v : V}, vs[i]? = some v → ∃ d, ds[i]? = some d ∧ Dp K H v d
  | [], _, h, i, v, e => by simp at e
  | u :: vs, _, h, 0, v, e => by
    cases h with
    | cons h1 h2 =>
      cases e
      exact ⟨_, rfl, h1⟩
  | u :: vs, _, h, i + 1, v, e => by
    cases h with
    | cons h1 h2 => exact dpAll_get h2 e
theorem filterMap_get {α : Type} (ds : List α) (f : α → V) : (List.range ds.length).filterMap (fun i => (ds[i]?).map f) = ds.map f := by
  induction ds with
  | nil => rfl
  | cons d ds ih =>
    rw [List.length_cons, List.range_succ_eq_map, List.filterMap_cons, List.filterMap_map, List.map_cons, ← ih]
    rfl
theorem wordB_str {d : PyData} (h : wordB d = true) : ∃ z, d = .str z := by
  cases d with
  | str z => exact ⟨z, rfl⟩
  | _ => cases h
abbrev sIsWhole : Stmt := topS 6
abbrev sIsBetween : Stmt := topS 7
abbrev sIsWord : Stmt := topS 8
abbrev sAreRegs : Stmt := topS 9
abbrev sIsRow : Stmt := topS 10
abbrev sIsPart : Stmt := topS 11
structure Bl2 (mg : Str → Option Value) : Prop extends Bl mg where
  n_isinstance : mg "isinstance" = none
  n_bool : mg "bool" = none
  n_str : mg "str" = none
  n_tuple : mg "tuple" = none
  n_list : mg "list" = none
  n_all : mg "all" = none
  n_zip : mg "zip" = none
  n_enumerate : mg "enumerate" = none
section
variable {P : Program} {w : World} {K : PySem.W.Frag} {mg : Str → Option Value} {base : Heap}
/-! ### is_whole, is_between -/
def spIsWhole (K : PySem.W.Frag) : Sp := fun vs H Q _ => ∃ (x : V) (d : PyData), vs = [x] ∧ Dp K H x d ∧ Q (.bl (isWhole d)) H
theorem scIsWhole : FnScope ["value"] ["value"] (defScope sIsWhole) := ⟨rfl, rfl, rfl, by decide +kernel, rfl, by decide +kernel, by decide +kernel⟩
theorem c_isWhole (D : Def K mg "is_whole" sIsWhole ["value"]) (T : Bl2 mg) : FnC P w K mg base CX0 1 "is_whole" ["value"] (spIsWhole K) := by
  refine D.ok scIsWhole (fun vs H Q E h => ?_) (fun f cdv A outer s H vs Q E hr h => ?_)
  · obtain ⟨x, d, rfl, _⟩ := h
    rfl
  · obtain ⟨x, d, rfl, hx, k⟩ := h
    have sc := scIsWhole
    refine ⟨_, (pss_one (ps_ret (pe_and (pe_callB (call_isD ty_int) (by rfl) T.n_isinstance (by decide +kernel) (pa_cons (pv 0) (pa_cons (pe_ty "int" (by rfl) T.n_int) pa_nil))) (pe_one (pe_not (pe_callB (call_isD ty_bool) (by rfl) T.n_isinstance (by decide +kernel) (pa_cons (pv 0) (pa_cons (pe_ty "bool" (by rfl) T.n_bool) pa_nil)))))))), ?_⟩
    walk_at "wp"
    refine ⟨d, hx, ite2 (fun c => ⟨d, hx, ?_⟩) fun c => ?_⟩
    · rw [isTy_int] at c
      rw [isTy_bool]
      revert c k
      cases d <;> intro k c <;> first | exact k | cases c
    · rw [isTy_int] at c
      revert c k
      cases d <;> intro k c <;> first | exact k | exact absurd rfl c
def spIsBetween (K : PySem.W.Frag) : Sp := fun vs H Q _ => ∃ (x : V) (d : PyData) (lo hi : Int), vs = [x, .int lo, .int hi] ∧ Dp K H x d ∧ Q (.bl (btw d lo hi)) H
theorem scIsBetween : FnScope ["value", "least", "most"] ["value", "least", "most"] (defScope sIsBetween) := ⟨rfl, rfl, rfl, by decide +kernel, rfl, by decide +kernel, by decide +kernel⟩
theorem c_isBetween (D : Def K mg "is_between" sIsBetween ["value", "least", "most"]) (T : Bl2 mg) : FnC P w K mg base CX0 2 "is_between" ["value", "least", "most"] (spIsBetween K) := by
  refine D.ok scIsBetween (fun vs H Q E h => ?_) (fun f cdv A outer s H vs Q E hr h => ?_)
  · obtain ⟨x, d, lo, hi, rfl, _⟩ := h
    rfl
  · obtain ⟨x, d, lo, hi, rfl, hx, k⟩ := h
    have sc := scIsBetween
    refine ⟨_, (pss_one (ps_ret (pe_and (pe_callB (call_isD ty_int) (by rfl) T.n_isinstance (by decide +kernel) (pa_cons (pv 0) (pa_cons (pe_ty "int" (by rfl) T.n_int) pa_nil))) (pe_and (pe_not (pe_callB (call_isD ty_bool) (by rfl) T.n_isinstance (by decide +kernel) (pa_cons (pv 0) (pa_cons (pe_ty "bool" (by rfl) T.n_bool) pa_nil)))) (pe_one (pe_chain op_le op_le (pv 1) (pv 0) (pv 2))))))), ?_⟩
    walk_at "wp"
    refine ⟨d, hx, ?_⟩
    cases hx with
    | int i =>
      have k' : Q (.bl (decide (lo ≤ i) && decide (i ≤ hi))) H := k
      rw [if_pos (by rfl)]
      refine ⟨.int i, .int i, ?_⟩
      rw [if_pos (by rfl)]
      walk_at "wp"
      refine ite2 (fun c => ?_) fun c => ?_
      · rw [decide_eq_true c] at k'
        exact k'
      · rw [decide_eq_false c] at k'
        exact k'
    | bl b =>
      rw [if_pos (by rfl)]
      refine ⟨.bool b, .bl b, ?_⟩
      rw [if_neg (by rw [isTy_bool]; exact Bool.false_ne_true)]
      exact k
    | _ =>
      rw [if_neg (by rw [isTy_int]; exact Bool.false_ne_true)]
      exact k

/-! ### is_word -/
theorem abc_mem (c : Nat) : c ∈ abc.cps.toList ↔ 97 ≤ c ∧ c ≤ 122 := by
  rw [abc_list, List.mem_map]
  constructor
  · rintro ⟨i, hi, rfl⟩
    rw [List.mem_range] at hi
    omega
  · rintro ⟨h0, h1⟩
    exact ⟨c - 97, List.mem_range.mpr (by omega), by omega⟩
def spIsWord (K : PySem.W.Frag) : Sp := fun vs H Q _ => ∃ (x : V) (d : PyData), vs = [x] ∧ Dp K H x d ∧ sm d = true ∧ ∀ H', Same H H' → Q (.bl (wordB d)) H'
theorem scIsWord : FnScope ["value", "letter"] ["value"] (defScope sIsWord) := ⟨rfl, rfl, rfl, by decide +kernel, rfl, by decide +kernel, by decide +kernel⟩
theorem c_isWord {tk tk2 : Tok} (D : Def K mg "is_word" sIsWord ["value"]) (T : Bl2 mg) (gL : mg "LETTERS" = some (.str abc tk)) (gM : mg "MOST_LETTERS" = some (.int 8 tk2)) : FnC P w K mg base CX0 1 "is_word" ["value"] (spIsWord K) := by
  refine D.ok scIsWord (fun vs H Q E h => ?_) (fun f cdv A outer s H vs Q E hr h => ?_)
  · obtain ⟨x, d, rfl, _⟩ := h
    rfl
  · obtain ⟨x, d, rfl, hx, hl, k⟩ := h
    have sc := scIsWord
    refine ⟨_, (pss_cons (ps_if (PW.pt (pw_or (pt_not (pt_val (pe_callB (call_isD ty_str) (by rfl) T.n_isinstance (by decide +kernel) (pa_cons (pv 0) (pa_cons (pe_ty "str" (by rfl) T.n_str) pa_nil))))) (pw_or1 (pt_not (pt_chain op_le op_le pe_int (pe_callB call_len_str (by rfl) T.n_len (by decide +kernel) (pa_cons (pv 0) pa_nil)) (pe_glob (v := .int 8) rfl gM ⟨_, rfl⟩)))))) (pss_one (ps_ret pe_bl)) pss_nil)
    (pss_one (ps_ret (pe_callB (cr_all rfl) (by rfl) T.n_all (by decide +kernel) (pa_cons (pe_lc (own := [("letter", 1)]) (g := gName 1) (tt := tYes) rfl sc.nd (pi_str (pv 0)) (blkOk_by (N := ["value", "letter"]) (sc := defScope sIsWord) (by decide +kernel)) (fun _ _ _ _ _ => (pg_name (i := 1) sc.nd rfl (Or.inl rfl))) (fun _ _ _ _ _ => pts_nil) (fun _ _ _ _ _ => (pe_cmpR op_in_sign (pv 1) (pe_glob (v := .str abc) rfl gL ⟨_, rfl⟩) (by rfl)))) pa_nil))))), ?_⟩
    walk_at "wp"
    refine ⟨d, hx, ?_⟩
    cases hx with
    | str z =>
      have hz : z.length ≤ sizeLine := by
        have e1 := sm_str hl
        have e2 := sizeLine_eq
        omega
      have lp : 1 ≤ z.length → z.length ≤ 8 → LcW (Its z) (gName 1) tYes (tOp (fun x y H Q => ∃ c, x = V.str { cps := #[c] } ∧ ∃ x, y = V.str x ∧ Q (V.bl (decide (c ∈ x.cps.toList))) H) (tVar 1) (tC (V.str abc))) [1] [some (V.str z), none] H fun x H1 => rAll K [x] H1 Q := by
        intro h1 h8
        refine lcw_it walk_str (fun D i G => G = upd H D (.lst ((z.cps.toList.take i).map fun c => V.bl (decide (c ∈ abc.cps.toList))))) (fun D hD => rfl) (fun _ _ _ _ _ => True.intro) ?_ ?_
        · rintro D i x H1 H2 hD hi rfl ⟨rfl, c, hc, rfl⟩
          walk_at "wp"
          have hc' : z.cps.toList[i]? = some c := by rw [Array.getElem?_toList]; exact hc
          have hi' : i < z.cps.toList.length := by simpa using hi
          refine ⟨c, rfl, _, upd_same, ?_, ?_⟩
          · rw [List.length_map, List.length_take]
            have e : z.length = z.cps.toList.length := rfl
            have e2 := sizeLine_eq
            omega
          · rw [upd_upd, List.take_add_one, hc', List.map_append]
            rfl
        · rintro D H1 hD rfl
          have hb : (wordB (.str z)) = (z.cps.toList.map fun c => decide (c ∈ abc.cps.toList)).all id := by
            have e : wordB (.str z) = (decide (1 ≤ z.length) && decide (z.length ≤ 8) && z.cps.toList.all fun c => decide (97 ≤ c ∧ c ≤ 122)) := rfl
            rw [e, decide_eq_true h1, decide_eq_true h8, List.all_map, Bool.true_and, Bool.true_and]
            congr 1
            funext c
            exact decide_eq_decide.mpr (abc_mem c).symm
          refine ⟨D, z.cps.toList.map fun c => decide (c ∈ abc.cps.toList), rfl, ?_, ?_⟩
          · refine SqL.of ?_
            rw [upd_same, List.map_map]
            congr 3
            rw [List.take_of_length_le (by simp)]
          · rw [← hb]
            exact k _ (same_new hD)
      rw [if_neg (show ¬ (!isTy (tyOf (PyData.str z)) "str") = true by rw [isTy_str]; exact Bool.false_ne_true)]
      refine ⟨z, rfl, hz, ite2 (fun a1 => ite2 (fun a2 => ⟨z, rfl, lp (by omega) (by omega)⟩) fun a2 => ?_) fun a1 => ?_⟩
      · have e : wordB (.str z) = false := by
          have e : wordB (.str z) = (decide (1 ≤ z.length) && decide (z.length ≤ 8) && z.cps.toList.all fun c => decide (97 ≤ c ∧ c ≤ 122)) := rfl
          rw [e, decide_eq_false (show ¬ z.length ≤ 8 by omega), Bool.and_false, Bool.false_and]
        rw [← e]
        exact k _ (Same.refl H)
      · rw [if_pos (by decide)]
        have e : wordB (.str z) = false := by
          have e : wordB (.str z) = (decide (1 ≤ z.length) && decide (z.length ≤ 8) && z.cps.toList.all fun c => decide (97 ≤ c ∧ c ≤ 122)) := rfl
          rw [e, decide_eq_false (show ¬ 1 ≤ z.length by omega), Bool.false_and, Bool.false_and]
        rw [← e]
        exact k _ (Same.refl H)
    | non => exact k _ (Same.refl H)
    | bl b => exact k _ (Same.refl H)
    | int i => exact k _ (Same.refl H)
    | lst _ _ => exact k _ (Same.refl H)
    | tup _ _ => exact k _ (Same.refl H)
/-! ### are_registers -/
def spAreRegs (K : PySem.W.Frag) : Sp := fun vs H Q _ => ∃ (x : V) (d : PyData), vs = [x] ∧ Dp K H x d ∧ sm d = true ∧ ∀ H', Same H H' → Q (.bl (regsB d)) H'
theorem scAreRegs : FnScope ["value", "word"] ["value"] (defScope sAreRegs) := ⟨rfl, rfl, rfl, by decide +kernel, rfl, by decide +kernel, by decide +kernel⟩
theorem c_areRegs (D : Def K mg "are_registers" sAreRegs ["value"]) (T : Bl2 mg) (cW : FnC P w K mg base CX0 1 "is_word" ["value"] (spIsWord K)) : FnC P w K mg base CX0 2 "are_registers" ["value"] (spAreRegs K) := by
  refine D.ok scAreRegs (fun vs H Q E h => ?_) (fun f cdv A outer s H vs Q E hr h => ?_)
  · obtain ⟨x, d, rfl, _⟩ := h
    rfl
  · obtain ⟨x, d, rfl, hx, hl, k⟩ := h
    have sc := scAreRegs
    have hr1 : Room 1 _ := hr.mono (by decide)
    refine ⟨_, (pss_cons (ps_if (PW.pt (pw_or (pt_not (pt_val (pe_callB (call_isD ty_tuple) (by rfl) T.n_isinstance (by decide +kernel) (pa_cons (pv 0) (pa_cons (pe_ty "tuple" (by rfl) T.n_tuple) pa_nil))))) (pw_or1 (pt_not (pt_chain op_le op_le pe_int (pe_callB call_len_seq (by rfl) T.n_len (by decide +kernel) (pa_cons (pv 0) pa_nil)) pe_int))))) (pss_one (ps_ret pe_bl)) pss_nil)
    (pss_one (ps_ret (pe_and (pe_callB (cr_all rfl) (by rfl) T.n_all (by decide +kernel) (pa_cons (pe_lc (own := [("word", 1)]) (g := gName 1) (tt := tYes) rfl sc.nd (pi_tup (pv 0)) (blkOk_by (N := ["value", "word"]) (sc := defScope sAreRegs) (by decide +kernel)) (fun _ _ _ _ _ => (pg_name (i := 1) sc.nd rfl (Or.inl rfl))) (fun _ _ _ _ _ => pts_nil) (fun _ _ _ _ _ => (pe_c cW hr1 rfl (pa_cons (pv 1) pa_nil)))) pa_nil)) (pe_one (pe_or (pe_cmpR op_eq (pe_callB call_len_seq (by rfl) T.n_len (by decide +kernel) (pa_cons (pv 0) pa_nil)) pe_int (nomark _)) (pe_one (pe_cmpR op_ne (pe_ix ix_tup (pv 0) pe_int (fun _ _ => rfl)) (pe_ix ix_tup (pv 0) pe_int (fun _ _ => rfl)) (nomark _))))))))), ?_⟩
    walk_at "wp"
    refine ⟨d, hx, ?_⟩
    cases hx with
    | @tup a xs ds hs ha =>
      have el := dpAll_len ha
      obtain ⟨_, sm1⟩ := sm_tup hl
      rw [if_neg (show ¬ (!isTy (tyOf (PyData.tuple ds)) "tuple") = true by rw [isTy_tuple]; exact Bool.false_ne_true)]
      have bad : ¬ (1 ≤ ds.length ∧ ds.length ≤ 2) → regsB (.tuple ds) = false := fun n => by
        match ds, n with
        | [], _ => rfl
        | [_], n => exact absurd ⟨Nat.le_refl 1, Nat.le_succ 1⟩ n
        | [_, _], n => exact absurd ⟨Nat.le_succ 1, Nat.le_refl 2⟩ n
        | _ :: _ :: _ :: _, _ => rfl
      refine ⟨_, rfl, xs, .inr hs, ite2 (fun a1 => ite2 (fun a2 => ⟨_, rfl, ⟨xs, hs⟩, ?_⟩) fun a2 => ?_) fun a1 => ?_⟩
      · refine lcw_gen walk_tup (fun i => (ds[i]?).map fun d => V.bl (wordB d)) (by omega) (fun H' e => Same.sqT e hs) ?_ ?_
        · rintro i x G1 G2 Nx Q' hi hG ⟨rfl, hx⟩ q _
          walk_at "wp"
          obtain ⟨e, he, hd⟩ := dpAll_get ha hx
          exact ⟨x, e, rfl, dp_same hG _ _ hd, sms_mem sm1 (List.mem_of_getElem? he), fun H' h' => q _ _ (by rw [he]; rfl) h'⟩
        · rintro D G hG hD hL
          have e2 : (List.range xs.length).filterMap (fun i => (ds[i]?).map fun d => V.bl (wordB d)) = (ds.map wordB).map V.bl := by
            rw [el, List.map_map]
            exact filterMap_get ds _
          rw [e2] at hL
          refine ⟨D, _, rfl, SqL.of hL, _, rfl, ?_⟩
          have hs' := Same.sqT hG hs
          match ds, ha, el, a1, a2, k with
          | [e], .cons h1 .nil, el, _, _, k =>
            refine ite2 (fun c => ⟨_, rfl, _, .inr hs', rfl, ?_⟩) fun c => ?_
            · rw [if_pos (by rw [el]; rfl)]
              have e3 : regsB (.tuple [e]) = true := by simpa [regsB] using c
              rw [← e3]
              exact k _ hG
            · have e3 : regsB (.tuple [e]) = false := by simpa [regsB] using c
              rw [← e3]
              exact k _ hG
          | [e, e'], .cons h1 (.cons h2 .nil), el, _, _, k =>
            refine ite2 (fun c => ⟨_, rfl, _, .inr hs', rfl, ?_⟩) fun c => ?_
            · rw [if_neg (by rw [el]; simp)]
              have c' : wordB e = true ∧ wordB e' = true := by simpa using c
              obtain ⟨z, rfl⟩ := wordB_str c'.1
              obtain ⟨z', rfl⟩ := wordB_str c'.2
              cases h1
              cases h2
              refine ⟨_, rfl, _, hs', _, rfl, _, rfl, _, hs', _, rfl, rfl, ?_⟩
              have e3 : regsB (.tuple [.str z, .str z']) = !decide (V.str z = V.str z') := by
                rw [dec_str]
                show (wordB (.str z) && wordB (.str z') && !(z == z')) = _
                rw [c'.1, c'.2]
                rfl
              rw [← e3]
              exact k _ hG
            · have e3 : regsB (.tuple [e, e']) = false := by
                show (wordB e && wordB e' && !strEq e e') = false
                have c' : ¬ (wordB e = true ∧ wordB e' = true) := by simpa using c
                cases h1 : wordB e
                · rfl
                · cases h2 : wordB e'
                  · rfl
                  · exact absurd ⟨h1, h2⟩ c'
              rw [← e3]
              exact k _ hG
          | [], _, el, a1, _, _ => exact absurd a1 (by rw [el]; decide)
          | _ :: _ :: _ :: l, _, el, _, a2, _ => 
            rw [el] at a2
            simp only [List.length_cons] at a2
            omega
      · rw [← bad (by omega)]
        exact k _ (Same.refl H)
      · rw [if_pos (by rfl), ← bad (by omega)]
        exact k _ (Same.refl H)
    | non => exact k _ (Same.refl H)
    | bl b => exact k _ (Same.refl H)
    | int i => exact k _ (Same.refl H)
    | str z => exact k _ (Same.refl H)
    | lst _ _ => exact k _ (Same.refl H)
end
end YY

set_option maxRecDepth 100000
set_option maxHeartbeats 4000000
namespace YY
open PySem PySem.Spec PyProof.Rows L2 XX
local macro_rules | `(tactic| walk_at "wp") => `(tactic| simp only [tSeq, tNext, tAsg, tPar, gName, tCB, tCons, tNil, tVar, tC, tOp, tUn, rI, rI0, rU, tLst, tTup, tFor_eq, iRng1, iRng2, iList, iTup, tRet, tRetN, tDrop, tIfS, tTest, tB, tAnd, tOr, tNot, tIf, tAndV, tOrV, tNotV, tCall, tBM, tBM0, rIxL, rIxT, rAppend, tLc_eq, gSub, rSetL, rEq, rNe, rMulS, rIxS, tRevT, gTup, gCons, gNil, wipe, tYes, LcEnd, tDisp, tPairs, tChain, tSl, tPart, tNoPart, rSlT, rSlL, rCatT, rCat, rRep, rIsD, V.ty.injEq, iZipB, tDNewK, tXf, wMA, wAs, rLenK, tLenSetS, rReprE, tVeI, tOst, tErr, tMkO, sFld, tFld, rIsE2, tMakeS, rListStr, tDNotIn, tDGet, rSetD, gSub, iEnumA, rIxD, iStr,
  cxOf_K, cxOf_noxK, L2.start, List.map_cons, List.map_nil, List.length_cons, List.length_nil, Nat.reduceAdd, Nat.reduceSub, List.replicate_succ, List.replicate_zero, List.replicate, List.cons_append, List.nil_append, List.getElem?_cons_zero, List.getElem?_cons_succ, List.set_cons_zero, List.set_cons_succ, List.append_nil,
  Option.some.injEq, V.int.injEq, V.ref.injEq, V.bl.injEq, V.str.injEq, List.cons.injEq, and_true, true_and, exists_eq_left', exists_eq_left, exists_and_left, exists_and_right, exists_const, bool_ite_true, bool_ite_false, dec_ite, ndec_ite, reduceCtorEq, false_or, or_false, false_and, and_false, decide_eq_true_eq, and_assoc, reduceIte, ite_true, ite_false, Int.zero_add])

def formTab : List (Str × List Str) := [("set", ["place", "value"]), ("copy", ["place", "place"]), ("take", ["place"]), ("if", ["place", "value", "to", "to"]), ("go", ["to"]), ("group", ["word", "anchor"]), ("meet", ["word"]), ("any", ["place", "value", "place"]),
  ("all", ["place", "value", "place"]), ("same", ["place", "place"]), ("end", [])]
def formOf (z : Str) : Option (List Str) := (formTab.find? fun e => e.1 == z).map Prod.snd
structure FormsOk (K : PySem.W.Frag) (w : World) (mg : Str → Option Value) (fo : Addr) (es : Array DictEntry) (n : Nat) : Prop where
  g : mg "FORMS" = some (.ref fo)
  kd : KDict K w fo es n
  yes : ∀ z ns, formOf z = some ns → ∃ a, PySem.W.nsIn K fo z = some (some (.ref a)) ∧ ∀ H, SqT K H a (ns.map V.str)
  no : ∀ z, formOf z = none → PySem.W.nsIn K fo z = some none
def placeB (rs : List Str) : PyData → Bool
  | .str z => decide (z ∈ rs)
  | _ => false
def anchorB (en : Int) : PyData → Bool
  | .none => true
  | d => btw d 0 (en - 1)
def partB (rs : List Str) (size en : Int) (p : PyData) (name : Str) : Bool :=
  if name = "place" then placeB rs p
  else if name = "value" then btw p 0 (size - 1)
  else if name = "to" then btw p 0 en
  else if name = "anchor" then anchorB en p
  else wordB p
def partsB (rs : List Str) (size en : Int) : List PyData → List Str → Bool
  | [], [] => true
  | p :: ps, n :: ns => partB rs size en p n && partsB rs size en ps ns
  | _, _ => false
def rowB (rs : List Str) (size en : Int) : PyData → Bool
  | .tuple (.str k :: ps) => (match formOf k with
    | some ns => partsB rs size en ps ns
    | none => false)
  | _ => false
theorem partsB_len {rs : List Str} {size en : Int} : ∀ {ps : List PyData} {ns : List Str}, ps.length ≠ ns.length → partsB rs size en ps ns = false
  | [], [], h => absurd rfl h
  | p :: ps, n :: ns, h => by
    rw [partsB, partsB_len fun e => h (by rw [List.length_cons, List.length_cons, e]), Bool.and_false]
  | [], n :: ns, _ => rfl
  | p :: ps, [], _ => rfl
theorem partsB_false {rs : List Str} {size en : Int} : ∀ {ps : List PyData} {ns : List Str} {i : Nat} {p : PyData} {n : Str}, ps[i]? = some p → ns[i]? = some n → partB rs size en p n = false → partsB rs size en ps ns = false
  | [], _, i, p, n, h, _, _ => by simp at h
  | _ :: _, [], i, p, n, _, h, _ => by simp at h
  | q :: ps, m :: ns, 0, p, n, h1, h2, h => by
    cases h1
    cases h2
    rw [partsB, h, Bool.false_and]
  | q :: ps, m :: ns, i + 1, p, n, h1, h2, h => by
    rw [List.getElem?_cons_succ] at h1 h2
    rw [partsB, partsB_false h1 h2 h, Bool.and_false]
theorem partsB_true {rs : List Str} {size en : Int} : ∀ {ps : List PyData} {ns : List Str}, ps.length = ns.length → (∀ (j : Nat) p n, ps[j]? = some p → ns[j]? = some n → partB rs size en p n = true) → partsB rs size en ps ns = true
  | [], [], _, _ => rfl
  | [], n :: ns, h, _ => nomatch h
  | p :: ps, [], h, _ => nomatch h
  | p :: ps, n :: ns, h, k => by
    rw [partsB, k 0 p n rfl rfl, partsB_true (Nat.succ.inj h) fun j p n h1 h2 => k (j + 1) p n h1 h2]
    rfl
theorem inV_strs {z : Str} {rs : List Str} : inV (.str z) (rs.map V.str) = decide (z ∈ rs) := by
  unfold inV
  rw [List.any_map]
  induction rs with
  | nil => rfl
  | cons r rs ih =>
    rw [List.any_cons, ih]
    have e : (((fun y => eqV y (V.str z)) ∘ V.str) r) = (r == z) := rfl
    rw [e]
    by_cases c : z = r
    · subst c
      simp
    · have c' : (r == z) = false := beq_false_of_ne fun e => c e.symm
      rw [c', Bool.false_or]
      exact decide_eq_decide.mpr ⟨List.mem_cons_of_mem _, fun h => (List.mem_cons.mp h).resolve_left c⟩
section
variable {P : Program} {w : World} {K : PySem.W.Frag} {mg : Str → Option Value} {base : Heap}
/-! ### _is_part -/
def nameOk (n : Str) : Bool := n == "place" || n == "value" || n == "to" || n == "anchor" || n == "word"
theorem formOf_names {z : Str} {ns : List Str} (h : formOf z = some ns) : ∀ n ∈ ns, nameOk n = true := by
  unfold formOf at h
  obtain ⟨e, he, rfl⟩ := Option.map_eq_some_iff.mp h
  have all : ∀ e ∈ formTab, ∀ n ∈ e.2, nameOk n = true := by decide +kernel
  exact all e (List.mem_of_find?_eq_some he)
theorem partB_word {rs : List Str} {size en : Int} {d : PyData} : partB rs size en d "word" = wordB d := by
  unfold partB
  rw [if_neg (by decide), if_neg (by decide), if_neg (by decide), if_neg (by decide)]
theorem partB_val {rs : List Str} {size en : Int} {d : PyData} : partB rs size en d "value" = btw d 0 (size - 1) := by
  unfold partB
  rw [if_neg (by decide), if_pos rfl]
theorem partB_to {rs : List Str} {size en : Int} {d : PyData} : partB rs size en d "to" = btw d 0 en := by
  unfold partB
  rw [if_neg (by decide), if_neg (by decide), if_pos rfl]
theorem partB_anchor {rs : List Str} {size en : Int} {d : PyData} : partB rs size en d "anchor" = anchorB en d := by
  unfold partB
  rw [if_neg (by decide), if_neg (by decide), if_neg (by decide), if_pos rfl]
theorem name_cases {n : Str} (h : nameOk n = true) (n1 : ¬ n = "place") (n2 : ¬ n = "word") : n = "value" ∨ n = "to" ∨ n = "anchor" := by
  unfold nameOk at h
  simp only [Bool.or_eq_true, beq_iff_eq] at h
  rcases h with (((h | h) | h) | h) | h
  · exact absurd h n1
  · exact .inl h
  · exact .inr (.inl h)
  · exact .inr (.inr h)
  · exact absurd h n2
def spIsPart (K : PySem.W.Frag) : Sp := fun vs H Q _ => ∃ (x : V) (d : PyData) (name : Str) (ra : Addr) (rs : List Str) (size en : Int), vs = [x, .str name, .ref ra, .int size, .int en] ∧ Dp K H x d ∧ sm d = true ∧ SqT K H ra (rs.map V.str) ∧ nameOk name = true ∧ ∀ H', Same H H' → Q (.bl (partB rs size en d name)) H'
theorem scIsPart : FnScope ["part", "name", "registers", "size", "end"] ["part", "name", "registers", "size", "end"] (defScope sIsPart) := ⟨rfl, rfl, rfl, by decide +kernel, rfl, by decide +kernel, by decide +kernel⟩
theorem c_isPart (D : Def K mg "_is_part" sIsPart ["part", "name", "registers", "size", "end"]) (T : Bl2 mg) (_cB : FnC P w K mg base CX0 2 "is_between" ["value", "least", "most"] (spIsBetween K)) (cW : FnC P w K mg base CX0 1 "is_word" ["value"] (spIsWord K)) : FnC P w K mg base CX0 3 "_is_part" ["part", "name", "registers", "size", "end"] (spIsPart K) := by
  refine D.ok scIsPart (fun vs H Q E h => ?_) (fun f cdv A outer s H vs Q E hr h => ?_)
  · obtain ⟨x, d, name, ra, rs, size, en, rfl, _⟩ := h
    rfl
  · obtain ⟨x, d, name, ra, rs, size, en, rfl, hx, hl, hR, hn, k⟩ := h
    have sc := scIsPart
    have hr1 : Room 1 _ := hr.mono (by decide)
    refine ⟨_, (pss_cons (ps_if (pt_cmpR op_eq (pv 1) pe_str (nomark _)) (pss_one (ps_ret (pe_and (pe_callB (call_isD ty_str) (by rfl) T.n_isinstance (by decide +kernel) (pa_cons (pv 0) (pa_cons (pe_ty "str" (by rfl) T.n_str) pa_nil))) (pe_one (pe_cmpR op_in_seq (pv 0) (pv 2) (by rfl)))))) pss_nil)
    (pss_cons (ps_if (pt_cmpR op_eq (pv 1) pe_str (nomark _)) (pss_one (ps_ret (pe_c cW hr1 rfl (pa_cons (pv 0) pa_nil)))) pss_nil)
    (pss_cons (ps_if (PW.pt (pw_and (pt_cmpR op_eq (pv 1) pe_str (nomark _)) (pw_and1 (pt_cmpR op_isN (pv 0) pe_non (nomark _))))) (pss_one (ps_ret pe_bl)) pss_nil)
    (pss_cons (ps_if (PW.pt (pw_or (pt_not (pt_val (pe_callB (call_isD ty_int) (by rfl) T.n_isinstance (by decide +kernel) (pa_cons (pv 0) (pa_cons (pe_ty "int" (by rfl) T.n_int) pa_nil))))) (pw_or (pt_val (pe_callB (call_isD ty_bool) (by rfl) T.n_isinstance (by decide +kernel) (pa_cons (pv 0) (pa_cons (pe_ty "bool" (by rfl) T.n_bool) pa_nil)))) (pw_or1 (pt_cmpR op_lt (pv 0) pe_int (nomark _)))))) (pss_one (ps_ret pe_bl)) pss_nil)
    (pss_cons (ps_if (pt_cmpR op_eq (pv 1) pe_str (nomark _)) (pss_one (ps_ret (pe_cmpR op_lt (pv 0) (pv 3) (nomark _)))) pss_nil)
    (pss_one (ps_ret (pe_ifExp (pt_cmpR op_eq (pv 1) pe_str (nomark _)) (pe_cmpR op_le (pv 0) (pv 4) (nomark _)) (pe_cmpR op_lt (pv 0) (pv 4) (nomark _)))))))))), ?_⟩
    walk_at "wp"
    have k0 := k H (Same.refl H)
    refine ⟨rfl, ite2 (fun n1 => ⟨d, hx, ?_⟩) fun n1 => ⟨rfl, ite2 (fun n2 => ?_) fun n2 => ?_⟩⟩
    · have e : partB rs size en d name = placeB rs d := by
        unfold partB
        rw [if_pos n1]
      rw [e] at k0
      cases hx with
      | str z =>
        rw [if_pos (by rfl)]
        refine ⟨ra, _, rfl, .inr hR, rfl, ?_, ?_⟩
        · rw [List.all_map]
          exact List.all_eq_true.mpr fun _ _ => rfl
        · rw [inV_strs]
          exact k0
      | _ => exact k0
    · subst n2
      rw [partB_word] at k
      exact ⟨x, d, rfl, hx, hl, k⟩
    · have ns := name_cases hn n1 n2
      have nobtw : (∀ hi, btw d 0 hi = false) → ¬ (name = "anchor" ∧ x = .non) → Q (.bl false) H := fun nb na => by
        rcases ns with rfl | rfl | rfl
        · rw [partB_val, nb] at k0
          exact k0
        · rw [partB_to, nb] at k0
          exact k0
        · rw [partB_anchor] at k0
          have e : anchorB en d = false := by
            cases d with
            | none =>
              cases hx
              exact absurd ⟨rfl, rfl⟩ na
            | _ => exact nb (en - 1)
          rw [e] at k0
          exact k0
      refine ⟨rfl, ite2 (fun n3 => ite2 (fun n4 => ?_) fun n4 => ?_) fun n3 => ?_⟩
      · subst n3
        subst n4
        cases hx
        rw [partB_anchor] at k0
        exact k0
      all_goals
        have na : ¬ (name = ("anchor" : Str) ∧ x = V.non) := fun z => by first | exact n4 z.2 | exact n3 z.1
        refine ⟨d, hx, ?_⟩
        cases hx with
        | int i =>
          rw [if_neg (show ¬ (!isTy (tyOf (PyData.int i)) "int") = true by rw [isTy_int]; exact Bool.false_ne_true)]
          refine ⟨.int i, .int i, ?_⟩
          rw [if_neg (show ¬ isTy (tyOf (PyData.int i)) "bool" = true by rw [isTy_bool]; exact Bool.false_ne_true)]
          refine ⟨i, rfl, ite2 (fun c => ?_) fun c => ⟨rfl, ite2 (fun n5 => ⟨i, rfl, ?_⟩) fun n5 => ⟨rfl, ite2 (fun n6 => ⟨i, rfl, ?_⟩) fun n6 => ⟨i, rfl, ?_⟩⟩⟩⟩
          · refine nobtw (fun hi => ?_) na
            show (decide (0 ≤ i) && decide (i ≤ hi)) = false
            rw [decide_eq_false (show ¬ 0 ≤ i by omega), Bool.false_and]
          · subst n5
            have e : btw (.int i) 0 (size - 1) = decide (i < size) := by
              show (decide (0 ≤ i) && decide (i ≤ size - 1)) = _
              rw [decide_eq_true (show 0 ≤ i by omega), Bool.true_and]
              exact decide_eq_decide.mpr ⟨fun _ => by omega, fun _ => by omega⟩
            rw [partB_val, e] at k0
            exact k0
          · subst n6
            have e : btw (.int i) 0 en = decide (i ≤ en) := by
              show (decide (0 ≤ i) && decide (i ≤ en)) = _
              rw [decide_eq_true (show 0 ≤ i by omega), Bool.true_and]
            rw [partB_to, e] at k0
            exact k0
          · have n7 : name = ("anchor" : Str) := by
              rcases ns with z | z | z
              · exact absurd z n5
              · exact absurd z n6
              · exact z
            subst n7
            have e : anchorB en (.int i) = decide (i < en) := by
              show (decide (0 ≤ i) && decide (i ≤ en - 1)) = _
              rw [decide_eq_true (show 0 ≤ i by omega), Bool.true_and]
              exact decide_eq_decide.mpr ⟨fun _ => by omega, fun _ => by omega⟩
            rw [partB_anchor, e] at k0
            exact k0
        | bl b =>
          rw [if_neg (show ¬ (!isTy (tyOf (PyData.bool b)) "int") = true by rw [isTy_int]; exact Bool.false_ne_true)]
          refine ⟨.bool b, .bl b, ?_⟩
          rw [if_pos (by rfl)]
          exact nobtw (fun hi => rfl) na
        | _ =>
          rw [if_pos (by rfl)]
          exact nobtw (fun hi => rfl) na
/-! ### is_row -/
theorem cut_tail (v : V) (vs : List V) : cutV (v :: vs) (some 1) none = vs := by
  unfold cutV
  have e1 : HT.sIx (v :: vs).length 0 (some 1) = 1 := by
    show min 1 (v :: vs).length = 1
    rw [List.length_cons]
    omega
  have e2 : HT.sIx (v :: vs).length (v :: vs).length none = (v :: vs).length := rfl
  rw [e1, e2]
  simp
def spIsRow (K : PySem.W.Frag) : Sp := fun vs H Q _ => ∃ (x : V) (d : PyData) (ra : Addr) (rs : List Str) (size en : Int), vs = [x, .ref ra, .int size, .int en] ∧ Dp K H x d ∧ sm d = true ∧ SqT K H ra (rs.map V.str) ∧ ∀ H', Same H H' → Q (.bl (rowB rs size en d)) H'
theorem scIsRow : FnScope ["row", "registers", "size", "end", "kind", "form", "part", "name"] ["row", "registers", "size", "end"] (defScope sIsRow) := ⟨rfl, rfl, rfl, by decide +kernel, rfl, by decide +kernel, by decide +kernel⟩
theorem c_isRow {fo : Addr} {es : Array DictEntry} {n : Nat} (D : Def K mg "is_row" sIsRow ["row", "registers", "size", "end"]) (T : Bl2 mg) (F : FormsOk K w mg fo es n) (cP : FnC P w K mg base CX0 3 "_is_part" ["part", "name", "registers", "size", "end"] (spIsPart K)) :
    FnC P w K mg base CX0 4 "is_row" ["row", "registers", "size", "end"] (spIsRow K) := by
  refine D.ok scIsRow (fun vs H Q E h => ?_) (fun f cdv A outer s H vs Q E hr h => ?_)
  · obtain ⟨x, d, ra, rs, size, en, rfl, _⟩ := h
    rfl
  · obtain ⟨x, d, ra, rs, size, en, rfl, hx, hl, hR, k⟩ := h
    have sc := scIsRow
    refine ⟨_, (pss_cons (ps_if (PW.pt (pw_or (pt_not (pt_val (pe_callB (call_isD ty_tuple) (by rfl) T.n_isinstance (by decide +kernel) (pa_cons (pv 0) (pa_cons (pe_ty "tuple" (by rfl) T.n_tuple) pa_nil))))) (pw_or1 (pt_cmpR op_eq (pe_callB call_len_seq (by rfl) T.n_len (by decide +kernel) (pa_cons (pv 0) pa_nil)) pe_int (nomark _))))) (pss_one (ps_ret pe_bl)) pss_nil)
    (pss_cons (ps_set (i := 4) sc.nd rfl (Or.inl rfl) (pe_ix ix_tup (pv 0) pe_int (fun _ _ => rfl)))
    (pss_cons (ps_if (PW.pt (pw_or (pt_not (pt_val (pe_callB (call_isD ty_str) (by rfl) T.n_isinstance (by decide +kernel) (pa_cons (pv 4) (pa_cons (pe_ty "str" (by rfl) T.n_str) pa_nil))))) (pw_or1 (pt_cmpR (op_notIn_kd F.kd) (pv 4) (pe_glob (v := .ref fo) rfl F.g rfl) (by rfl))))) (pss_one (ps_ret pe_bl)) pss_nil)
    (pss_cons (ps_set (i := 5) sc.nd rfl (Or.inl rfl) (pe_ix ix_kdict (pe_glob (v := .ref fo) rfl F.g rfl) (pv 4) (fun _ _ => rfl)))
    (pss_cons (ps_if (pt_cmpR op_ne (pe_callB call_len_seq (by rfl) T.n_len (by decide +kernel) (pa_cons (pv 0) pa_nil)) (pe_op op_add (pe_callB call_len_seq (by rfl) T.n_len (by decide +kernel) (pa_cons (pv 5) pa_nil)) pe_int) (nomark _)) (pss_one (ps_ret pe_bl)) pss_nil)
    (pss_cons (ps_for PassesOwn.never rfl (pi_zipB true true (by rfl) T.n_zip (pa_cons (pe_slice sl_tupA (pv 0) (po_some pe_int) po_none) (pa_cons (pv 5) pa_nil))) (pg_tup (by rfl) (pgs_cons (pg_name (i := 6) sc.nd rfl (Or.inl rfl)) (pgs_cons (pg_name (i := 7) sc.nd rfl (Or.inl rfl)) pgs_nil)))
      (pss_one (ps_if (pt_not (pt_val (pe_c cP hr rfl (pa_cons (pv 6) (pa_cons (pv 7) (pa_cons (pv 1) (pa_cons (pv 2) (pa_cons (pv 3) pa_nil)))))))) (pss_one (ps_ret pe_bl)) pss_nil)))
    (pss_one (ps_ret pe_bl)))))))), ?_⟩
    walk_at "wp"
    refine ⟨d, hx, ?_⟩
    cases hx with
    | @tup a xs ds hs ha =>
      obtain ⟨sm0, sm1⟩ := sm_tup hl
      rw [if_neg (show ¬ (!isTy (tyOf (PyData.tuple ds)) "tuple") = true by rw [isTy_tuple]; exact Bool.false_ne_true)]
      cases ha with
      | nil =>
        refine ⟨a, rfl, _, .inr hs, rfl, ?_⟩
        rw [if_pos (by rfl)]
        exact k H (Same.refl H)
      | @cons v vs e ps h1 h2 =>
        have el := dpAll_len h2
        refine ⟨a, rfl, _, .inr hs, rfl, ?_⟩
        rw [if_neg (by rw [List.length_cons]; omega)]
        refine ⟨a, rfl, _, hs, v, at_of (j := 0) rfl rfl, e, h1, ?_⟩
        cases h1 with
        | str z =>
          rw [if_neg (show ¬ (!isTy (tyOf (PyData.str z)) "str") = true by rw [isTy_str]; exact Bool.false_ne_true)]
          refine ⟨z, rfl, ?_⟩
          cases hz : formOf z with
          | none =>
            have e3 : rowB rs size en (.tuple (.str z :: ps)) = false := by
              show (match formOf z with
                | some ns => partsB rs size en ps ns
                | none => false) = false
              rw [hz]
            rw [e3] at k
            exact ⟨none, F.no z hz, k H (Same.refl H)⟩
          | some ns =>
            have e3 : rowB rs size en (.tuple (.str z :: ps)) = partsB rs size en ps ns := by
              show (match formOf z with
                | some ns => partsB rs size en ps ns
                | none => false) = _
              rw [hz]
            rw [e3] at k
            obtain ⟨fa, hf, hT⟩ := F.yes z ns hz
            refine ⟨_, hf, ?_⟩
            rw [List.length_cons] at sm0
            rw [if_neg (show ¬ (!(some (Value.ref fa)).isSome) = true from Bool.false_ne_true)]
            refine ⟨z, rfl, .ref fa, ⟨es, n, .ref fa, F.kd.at_, F.kd.lit, hf, rfl⟩, a, rfl, _, .inr hs, fa, rfl, _, .inr (hT H), rfl, ?_⟩
            rw [List.length_cons, List.length_map]
            refine ite2 (fun c => ?_) fun c => ?_
            · have eq : ps.length = ns.length := by omega
              refine sl_res hs fun r H1 e1 hr1 => ?_
              have ec : cutV (V.str z :: vs) (some 1) none = vs := cut_tail (V.str z) vs
              rw [ec] at hr1
              have hF1 : SqT K H1 fa (ns.map V.str) := hT H1
              refine ⟨r, rfl, fa, rfl, ⟨_, hr1⟩, ⟨_, hF1⟩, ?_⟩
              refine loop_it (walk_zipB (xs := vs) (ys := ns.map V.str) (by rw [List.length_map]; omega)) (fun i τ G => ∃ u1 u2, τ = [some (V.ref a), some (V.ref ra), some (V.int size), some (V.int en), some (V.str z), some (V.ref fa), u1, u2] ∧ Same H1 G ∧ ∀ (j : Nat) p n, j < i → ps[j]? = some p → ns[j]? = some n → partB rs size en p n = true)
                ⟨none, none, rfl, Same.refl _, fun j p n h => by omega⟩ (fun i τ G _ ⟨_, _, _, e, _⟩ => ⟨Same.sqT e hr1, Same.sqT e hF1⟩) ?_ ?_
              · rintro i x τ G1 G2 hi ⟨u1, u2, rfl, hG, ok⟩ ⟨q, x1, x2, rfl, hq, rfl, hx1, hx2⟩
                walk_at "wp"
                obtain ⟨pd, hp, hpd⟩ := dpAll_get h2 hx1
                have hx2 : (List.map V.str ns)[i]? = some x2 := hx2
                rw [List.getElem?_map] at hx2
                obtain ⟨nm, hn, rfl⟩ := Option.map_eq_some_iff.mp hx2
                have e12 := (e1.trans hG).trans (same_new (o := .tup [x1, V.str nm]) hq)
                refine ⟨_, SqT.of upd_same, rfl, x1, _, rfl, V.str nm, _, rfl, rfl, ?_⟩
                refine ⟨x1, pd, nm, ra, rs, size, en, rfl, dp_same e12 _ _ hpd, sms_mem sm1 (List.mem_cons_of_mem _ (List.mem_of_getElem? hp)), Same.sqT e12 hR, formOf_names hz _ (List.mem_of_getElem? hn), fun H' h' => ⟨_, rfl, ?_⟩⟩
                cases hb : partB rs size en pd nm with
                | false =>
                  rw [partsB_false hp hn hb] at k
                  exact k _ (e12.trans h')
                | true =>
                  rw [if_neg (show ¬ (!true) = true from Bool.false_ne_true)]
                  refine ⟨(hG.trans (same_new hq)).trans h', fun j p n hj h1 h2 => ?_⟩
                  by_cases c : j < i
                  · exact ok j p n c h1 h2
                  · have e : j = i := by omega
                    subst e
                    rw [hp] at h1
                    rw [hn] at h2
                    cases h1
                    cases h2
                    exact hb
              · rintro τ G ⟨u1, u2, rfl, hG, ok⟩
                rw [partsB_true eq fun j p n h1 h2 => ok j p n (by rw [el]; exact (List.getElem?_eq_some_iff.mp h1).1) h1 h2] at k
                exact k G (e1.trans hG)
            · rw [partsB_len (by omega)] at k
              exact k H (Same.refl H)
        | _ => exact k H (Same.refl H)
    | non => exact k _ (Same.refl H)
    | bl b => exact k _ (Same.refl H)
    | int i => exact k _ (Same.refl H)
    | str z => exact k _ (Same.refl H)
    | lst _ _ => exact k _ (Same.refl H)
end
end YY

set_option maxRecDepth 100000
set_option maxHeartbeats 4000000
namespace YY
open PySem PySem.Spec PyProof.Rows L2 XX
theorem dpAll_strs {K : PySem.W.Frag} {H : Hp} : ∀ l : List Str, DpAll K H (l.map V.str) (l.map PyData.str)
  | [] => .nil
  | z :: l => .cons (.str z) (dpAll_strs l)
theorem depth_strs : ∀ l : List Str, PyData.depthAll (l.map PyData.str) = 0
  | [] => rfl
  | z :: l => by
    rw [List.map_cons, PyData.depthAll, depth_strs l]
    rfl
structure Bl3 (mg : Str → Option Value) : Prop extends Bl2 mg where
  n_set : mg "set" = none
  n_repr : mg "repr" = none
def gCat {α : Type} (us ws : List α) : List α := us ++ ws
theorem dpAll_app {K : PySem.W.Frag} {H : Hp} : ∀ {xs : List V} {ds : List PyData} {ys : List V} {es : List PyData}, DpAll K H xs ds → DpAll K H ys es → DpAll K H (xs ++ ys) (ds ++ es)
  | _, _, _, _, .nil, h => h
  | _, _, _, _, .cons h1 h2, h => .cons h1 (dpAll_app h2 h)
theorem sml_txt {z : Str} (h : (decide (z.length ≤ 9) && z.cps.toList.all fun c => decide (c < 0x110000)) = true) : Sml 0 100 (.str z) := by
  rw [Bool.and_eq_true, decide_eq_true_eq, List.all_eq_true] at h
  exact sml_str (by omega) (by decide) fun c hc => of_decide_eq_true (h.2 c hc)
theorem sml_i {i : Int} (h0 : -10 ≤ i) (h1 : i ≤ 1000) : Sml 0 100 (.int i) := (sml_int h0 h1).mono (Nat.le_refl _) (by decide)
theorem sml_non : Sml 0 100 .none := ⟨rfl, Nat.le_refl _, Nat.zero_le _⟩
def vd : V → PyData
  | .bl b => .bool b
  | .int i => .int i
  | .str z => .str z
  | _ => .none
theorem optV_dp {K : PySem.W.Frag} {H : Hp} : ∀ o : Option Int, Dp K H (optV o) (vd (optV o))
  | none => .non
  | some i => .int i
theorem row_dps {K : PySem.W.Frag} {H : Hp} (r : RowD) : DpAll K H r.vals (r.vals.map vd) := by
  cases r with
  | set w v => exact .cons (.str _) (.cons (.str _) (.cons (.int _) .nil))
  | copy w o => exact .cons (.str _) (.cons (.str _) (.cons (.str _) .nil))
  | take w => exact .cons (.str _) (.cons (.str _) .nil)
  | br w v t j => exact .cons (.str _) (.cons (.str _) (.cons (.int _) (.cons (.int _) (.cons (.int _) .nil))))
  | go t => exact .cons (.str _) (.cons (.int _) .nil)
  | group g a => exact .cons (.str _) (.cons (.str _) (.cons (optV_dp a) .nil))
  | meet m => exact .cons (.str _) (.cons (.str _) .nil)
  | any w v o => exact .cons (.str _) (.cons (.str _) (.cons (.int _) (.cons (.str _) .nil)))
  | all w v o => exact .cons (.str _) (.cons (.str _) (.cons (.int _) (.cons (.str _) .nil)))
  | same w o => exact .cons (.str _) (.cons (.str _) (.cons (.str _) .nil))
  | fin => exact .cons (.str _) .nil
theorem row_len (r : RowD) : 1 ≤ (r.vals.map vd).length ∧ (r.vals.map vd).length ≤ 5 := by
  cases r <;> (simp only [RowD.vals, List.map_cons, List.map_nil, List.length_cons, List.length_nil]; exact ⟨by decide, by decide⟩)
theorem word_sml {z : Str} (h : IsWord z) : Sml 0 100 (.str z) := (sml_str (n := 8) h.2.1 (by decide) fun c hc => by
  have e := h.2.2 c hc
  omega).mono (Nat.le_refl _) (by decide)
theorem sml_all : ∀ {l : List PyData} {P : PyData → Prop}, (∀ d ∈ l, P d) → ∀ d, P d → ∀ e ∈ d :: l, P e := fun {l P} h d hd e he => by
  rcases List.mem_cons.mp he with rfl | he
  · exact hd
  · exact h e he
theorem txt_sml (z : Str) (e : (decide (z.length ≤ 9) && z.cps.toList.all fun c => decide (c < 0x110000)) = true) : Sml 0 100 (.str z) := sml_txt e
theorem row_sml {r : RowD} {ws : List Str} {size many : Int} (hw : ∀ z ∈ ws, IsWord z) (h3 : size ≤ 3) (h24 : many ≤ 24) (h : r.Ok ws size many) : ∀ d ∈ r.vals.map vd, Sml 0 100 d := by
  have nl : ∀ d ∈ ([] : List PyData), Sml 0 100 d := fun d hd => nomatch hd
  have wd : ∀ z ∈ ws, Sml 0 100 (.str z) := fun z hz => word_sml (hw z hz)
  cases r with
  | set w v =>
    obtain ⟨a, b, c⟩ := h
    exact sml_all (sml_all (sml_all nl _ (sml_i (by omega) (by omega))) _ (wd _ a)) _ (txt_sml "set" (by decide +kernel))
  | copy w o =>
    obtain ⟨a, b⟩ := h
    exact sml_all (sml_all (sml_all nl _ (wd _ b)) _ (wd _ a)) _ (txt_sml "copy" (by decide +kernel))
  | take w => exact sml_all (sml_all nl _ (wd _ h)) _ (txt_sml "take" (by decide +kernel))
  | br w v t j =>
    obtain ⟨a, b, c, e⟩ := h
    exact sml_all (sml_all (sml_all (sml_all (sml_all nl _ (sml_i (by omega) (by omega))) _ (sml_i (by omega) (by omega))) _ (sml_i (by omega) (by omega))) _ (wd _ a)) _ (txt_sml "if" (by decide +kernel))
  | go t =>
    obtain ⟨a, b⟩ := h
    exact sml_all (sml_all nl _ (sml_i (by omega) (by omega))) _ (txt_sml "go" (by decide +kernel))
  | group g a =>
    obtain ⟨b, e⟩ := h
    refine sml_all (sml_all (sml_all nl _ ?_) _ ?_) _ (txt_sml "group" (by decide +kernel))
    · cases a with
      | none => exact sml_non
      | some i =>
        have e2 := e i rfl
        exact sml_i (by omega) (by omega)
    · rcases b with rfl | rfl
      · exact txt_sml _ (by decide +kernel)
      · exact txt_sml _ (by decide +kernel)
  | meet m =>
    refine sml_all (sml_all nl _ ?_) _ (txt_sml "meet" (by decide +kernel))
    rcases h with rfl | rfl
    · exact txt_sml _ (by decide +kernel)
    · exact txt_sml _ (by decide +kernel)
  | any w v o =>
    obtain ⟨a, b, e⟩ := h
    exact sml_all (sml_all (sml_all (sml_all nl _ (wd _ e)) _ (sml_i (by omega) (by omega))) _ (wd _ a)) _ (txt_sml "any" (by decide +kernel))
  | all w v o =>
    obtain ⟨a, b, e⟩ := h
    exact sml_all (sml_all (sml_all (sml_all nl _ (wd _ e)) _ (sml_i (by omega) (by omega))) _ (wd _ a)) _ (txt_sml "all" (by decide +kernel))
  | same w o =>
    obtain ⟨a, b⟩ := h
    exact sml_all (sml_all (sml_all nl _ (wd _ b)) _ (wd _ a)) _ (txt_sml "same" (by decide +kernel))
  | fin => exact sml_all nl _ (txt_sml "end" (by decide +kernel))
theorem row_all {r : RowD} {ws : List Str} {size many : Int} (hw : ∀ z ∈ ws, IsWord z) (h3 : size ≤ 3) (h24 : many ≤ 24) (h : r.Ok ws size many) : Sml 2 2000 (.tuple (r.vals.map vd)) :=
  (Sml.tup (m := 5) (row_sml hw h3 h24 h) (row_len r).2 (by decide)).mono (by decide) (by decide)
end YY

set_option maxRecDepth 100000
set_option maxHeartbeats 4000000
namespace YY
open PySem PySem.Spec PyProof.Rows L2 XX
local macro_rules | `(tactic| walk_at "wp") => `(tactic| simp only [tSeq, tNext, tAsg, tPar, gName, tCB, tCons, tNil, tVar, tC, tOp, tUn, rI, rI0, rU, tLst, tTup, tFor_eq, iRng1, iRng2, iList, iTup, tRet, tRetN, tDrop, tIfS, tTest, tB, tAnd, tOr, tNot, tIf, tAndV, tOrV, tNotV, tCall, tBM, tBM0, rIxL, rIxT, rAppend, tLc_eq, gSub, rSetL, rEq, rNe, rMulS, rIxS, tRevT, gTup, gCons, gNil, wipe, tYes, LcEnd, tDisp, tPairs, tChain, tSl, tPart, tNoPart, rSlT, rSlL, rCatT, rCat, rRep, rIsD, V.ty.injEq, iZipB, tXf, wMA, wAs, rLenK, tLenSetS, rReprE, tVeI, tOst, tErr, tMkO, sFld, tFld, rIsE2, tMakeS, rListStr, tDNotIn, tDGet, rSetD, gSub, iEnumA, rIxD, iStr,
  cxOf_K, cxOf_noxK, L2.start, List.map_cons, List.map_nil, List.length_cons, List.length_nil, Nat.reduceAdd, Nat.reduceSub, List.replicate_succ, List.replicate_zero, List.replicate, List.cons_append, List.nil_append, List.getElem?_cons_zero, List.getElem?_cons_succ, List.set_cons_zero, List.set_cons_succ, List.append_nil,
  Option.some.injEq, V.int.injEq, V.ref.injEq, V.bl.injEq, V.str.injEq, List.cons.injEq, and_true, true_and, exists_eq_left', exists_eq_left, exists_and_left, exists_and_right, exists_const, bool_ite_true, bool_ite_false, dec_ite, ndec_ite, reduceCtorEq, false_or, or_false, false_and, and_false, decide_eq_true_eq, and_assoc, reduceIte, ite_true, ite_false, Int.zero_add])

abbrev sErrInit : Stmt := inClass (topS 18) 0
abbrev sProgInit : Stmt := inClass (topS 27) 0
section
variable {kws : List (Str × V)} {P : Program} {w : World} {K : PySem.W.Frag} {mg : Str → Option Value} {base : Heap}
theorem scErrInit : FnScope ["self", "value"] ["self", "value"] (defScope sErrInit) := ⟨rfl, rfl, rfl, by decide +kernel, rfl, by decide +kernel, by decide +kernel⟩
theorem c_errInit {fI : Addr} {fd : FuncData} {tk : Tok} (F : L2.Fun K "__init__" "LanesError.__init__" sErrInit fI fd) (nV : mg "ValueError" = none) (gM : mg "_MESSAGE" = some (.str "the attribute value tells what this is about" tk))
    (vV : PySem.W.findCls K (.type "ValueError") (.type "type") "__init__" = some (.val (.builtin "ValueError.__init__"))) : FnOk P w K mg base CX0 1 fI fd ["self", "value"] (spErr K) := by
  refine F.ok scErrInit (fun vs H Q E h => ?_) (fun cdv A outer s H vs Q E hr h => ?_)
  · obtain ⟨a, C, v, rfl, _⟩ := h
    rfl
  · obtain ⟨a, C, v, rfl, oex, no, ha, k⟩ := h
    have sc := scErrInit
    refine ⟨_, (pss_cons (ps_expr (pe_veinit (by rfl) nV vV (pa_cons (pv 0) (pa_cons (pe_glob (v := .str "the attribute value tells what this is about") rfl gM ⟨_, rfl⟩) pa_nil)) (by rfl)))
      (pss_one (ps_ost (pv 0) (pv 1) (by rfl)))), ?_⟩
    walk_at "wp"
    exact ⟨by decide, C, oex, ha, C, oex, no, .inl ⟨ha, fun dx h1 h2 => k dx h1 h2⟩⟩
theorem err_of2 {K : PySem.W.Frag} {C : Addr} {v : V} {H : Hp} {Q : XK} (oex : OexC K C) (no : PySem.W.findIn K (.ref C) "value" = some none) (h : ∀ d, H d = none → Q (.ref C) (some d) (upd H d (.xd [("value", v)]))) :
    1 ≤ 1000 ∧ ∀ a, H a = none → spErr K [.ref a, v] (upd H a (exo a C none))
      (fun v' H2 => v' = .non ∧ ∃ (d : Addr), H2 a = some (exo a C (some d)) ∧ ∃ (fs : List (Str × V)), H2 d = some (exd d fs) ∧ H d = none ∧ Q (.ref C) (some d) (upd (del H2 a) d (.xd fs))) (fun _ _ _ => False) := by
  obtain ⟨h1, h2⟩ := err_of oex no h
  refine ⟨h1, fun a ha => ?_⟩
  obtain ⟨a', C', v', e, o, n, q, r⟩ := h2 a ha
  refine ⟨a', C', v', e, o, n, q, fun dx hd hne => ?_⟩
  obtain ⟨x1, d, fs, x2, x3, x4, x5⟩ := r dx hd hne
  exact ⟨x1, d, x2, fs, x3, x4, x5⟩
/-! ### Program.__init__ -/
def itemsOf : PyData → Option (List PyData)
  | .list ds => some ds
  | .tuple ds => some ds
  | _ => none
def strsOf : PyData → List Str
  | .tuple ds => ds.filterMap fun d => match d with
    | .str z => some z
    | _ => none
  | _ => []
def isTupD : PyData → Bool
  | .tuple _ => true
  | _ => false
def intOf : PyData → Int
  | .int i => i
  | _ => 0
/-- the first row that is none -/
def firstBad (rs : List Str) (size : Int) (ds : List PyData) : Option Nat := ds.findIdx? fun d => !rowB rs size ds.length d
def rowsOk (d : PyData) : Bool := match itemsOf d with
  | some ds => decide (1 ≤ ds.length) && decide (ds.length ≤ 24)
  | none => false
structure Errs (K : PySem.W.Frag) (mg : Str → Option Value) (fI cR cN cW cB : Addr) : Prop where
  R : ErrC K mg "BadRegisters" cR fI
  N : ErrC K mg "BadNumber" cN fI
  W : ErrC K mg "BadRows" cW fI
  B : ErrC K mg "BadRow" cB fI
structure ProgC (K : PySem.W.Frag) (C : Addr) : Prop where
  cls : Cls K C
  n1 : NoAttr K C "registers"
  n2 : NoAttr K C "size"
  n3 : NoAttr K C "rows"
  n4 : NoAttr K C "end"
  n5 : NoAttr K C "places"
  n6 : NoAttr K C "changed"
def Ex (x : Addr) (H G : Hp) : Prop := ∀ b o, b ≠ x → H b = some o → G b = some o
theorem dpE_same {K : PySem.W.Frag} {H G : Hp} {v : V} {d : PyData} (e : Same H G) (h : DpE K H v d) : DpE K G v d := by
  rcases h with h | ⟨rfl, a, rfl, h⟩
  · exact .inl (dp_same e _ _ h)
  · exact .inr ⟨rfl, a, rfl, e _ _ h⟩
theorem isTy_seq (d : PyData) : (isTy (tyOf d) "list" || isTy (tyOf d) "tuple") = (itemsOf d).isSome := by cases d <;> rfl
theorem sqA_or {K : PySem.W.Frag} {t : Bool} {H : Hp} {a : Addr} {xs : List V} (h : SqA t K H a xs) : SqL K H a xs ∨ SqT K H a xs := by
  cases t
  · exact .inl h
  · exact .inr h
theorem sqA_same {K : PySem.W.Frag} {t : Bool} {H G : Hp} {a : Addr} {xs : List V} (e : Same H G) (h : SqA t K H a xs) : SqA t K G a xs := by
  cases t
  · exact Same.sqL e h
  · exact Same.sqT e h
theorem seqOf {K : PySem.W.Frag} {H : Hp} {v : V} {d : PyData} {ds : List PyData} (hi : itemsOf d = some ds) (h : DpE K H v d) : ∃ a xs, v = .ref a ∧ SqA (isTupD d) K H a xs ∧ DpAll K H xs ds := by
  rcases h with h | ⟨rfl, _⟩
  · cases h with
    | lst h1 h2 =>
      cases hi
      exact ⟨_, _, rfl, h1, h2⟩
    | tup h1 h2 =>
      cases hi
      exact ⟨_, _, rfl, h1, h2⟩
    | _ => cases hi
  · cases hi
theorem sm_items {d : PyData} {ds : List PyData} (hi : itemsOf d = some ds) (h : sm d = true) : ∀ e ∈ ds, sm e = true := fun e he => by
  cases d with
  | list xs =>
    cases hi
    exact sms_mem (sm_lst h).2 he
  | tuple xs =>
    cases hi
    exact sms_mem (sm_tup h).2 he
  | _ => cases hi
theorem regs_strs {d : PyData} (h : regsB d = true) : d = .tuple ((strsOf d).map PyData.str) ∧ (∀ z ∈ strsOf d, wordS z = true) ∧ 1 ≤ (strsOf d).length ∧ (strsOf d).length ≤ 2 := by
  match d, h with
  | .tuple [a], h =>
    have h' : wordB a = true := h
    obtain ⟨z, rfl⟩ := wordB_str h'
    exact ⟨rfl, fun y hy => by rw [List.mem_singleton.mp hy]; exact h', Nat.le_refl 1, Nat.le_succ 1⟩
  | .tuple [a, b], h =>
    have h' : (wordB a && wordB b && !strEq a b) = true := h
    rw [Bool.and_eq_true, Bool.and_eq_true] at h'
    obtain ⟨z, rfl⟩ := wordB_str h'.1.1
    obtain ⟨z', rfl⟩ := wordB_str h'.1.2
    refine ⟨rfl, fun y hy => ?_, Nat.le_succ 1, Nat.le_refl 2⟩
    rcases List.mem_cons.mp hy with e | hy
    · rw [e]
      exact h'.1.1
    · rw [List.mem_singleton.mp hy]
      exact h'.1.2
theorem dps_strs {K : PySem.W.Frag} {H : Hp} : ∀ {xs : List V} {zs : List Str}, DpAll K H xs (zs.map PyData.str) → xs = zs.map V.str
  | [], [], _ => rfl
  | [], _ :: _, h => nomatch h
  | _ :: _, [], h => nomatch h
  | x :: xs, z :: zs, h => by
    cases h with
    | cons h1 h2 =>
      cases h1
      rw [dps_strs h2]
      rfl
theorem dp_strs {K : PySem.W.Frag} {H : Hp} {v : V} {zs : List Str} (h : Dp K H v (.tuple (zs.map PyData.str))) : ∃ a, v = .ref a ∧ SqT K H a (zs.map V.str) := by
  cases h with
  | tup h1 h2 =>
    rw [dps_strs h2] at h1
    exact ⟨_, rfl, h1⟩
theorem int_btw {K : PySem.W.Frag} {H : Hp} {v : V} {d : PyData} {lo hi : Int} (h : btw d lo hi = true) (hv : Dp K H v d) : d = .int (intOf d) ∧ v = .int (intOf d) := by
  cases hv with
  | int i => exact ⟨rfl, rfl⟩
  | _ => cases h
theorem find_at {p : PyData → Bool} : ∀ {ds : List PyData} {i : Nat} {d : PyData}, ds[i]? = some d → p d = true → (∀ (j : Nat) e, j < i → ds[j]? = some e → p e = false) → ds.findIdx? p = some i
  | [], i, d, h, _, _ => by simp at h
  | x :: ds, 0, d, h, hp, _ => by
    cases h
    rw [List.findIdx?_cons, hp]
    rfl
  | x :: ds, i + 1, d, h, hp, ha => by
    rw [List.findIdx?_cons, ha 0 x (Nat.succ_pos i) rfl, find_at (ds := ds) (i := i) h hp fun j e hj he => ha (j + 1) e (Nat.succ_lt_succ hj) he]
    rfl
theorem find_none {p : PyData → Bool} : ∀ {ds : List PyData}, (∀ (j : Nat) e, ds[j]? = some e → p e = false) → ds.findIdx? p = none
  | [], _ => rfl
  | x :: ds, ha => by
    rw [List.findIdx?_cons, ha 0 x rfl, find_none (ds := ds) fun j e he => ha (j + 1) e he]
    rfl
theorem ex_upd {x : Addr} {H : Hp} {o : HO} : Ex x H (upd H x o) := fun b u hb h => by
  rw [upd_ne hb]
  exact h
theorem Ex.trans {x : Addr} {H G F : Hp} (a : Ex x H G) (b : Ex x G F) : Ex x H F := fun c u hc h => b c u hc (a c u hc h)
theorem ex_same {x : Addr} {H G : Hp} (a : Same H G) : Ex x H G := fun c u _ h => a c u h
theorem sqT_ex {K : PySem.W.Frag} {x C dx a : Addr} {fs : List (Str × V)} {H G : Hp} {xs : List V} (hx : H x = some (.ins C dx fs)) (e : Ex x H G) (h : SqT K H a xs) : SqT K G a xs := by
  rcases h with (h | ⟨o, h⟩) | h
  · exact .inl (.inl (e _ _ (ne_of h hx (by intro z; cases z)) h))
  · exact .inl (.inr ⟨o, e _ _ (ne_of h hx (by intro z; cases z)) h⟩)
  · exact .inr h
theorem sqL_ex {K : PySem.W.Frag} {x C dx a : Addr} {fs : List (Str × V)} {H G : Hp} {xs : List V} (hx : H x = some (.ins C dx fs)) (e : Ex x H G) (h : SqL K H a xs) : SqL K G a xs := by
  rcases h with (h | ⟨o, h⟩) | h
  · exact .inl (.inl (e _ _ (ne_of h hx (by intro z; cases z)) h))
  · exact .inl (.inr ⟨o, e _ _ (ne_of h hx (by intro z; cases z)) h⟩)
  · exact .inr h
mutual
theorem dp_ex {K : PySem.W.Frag} {x C dx : Addr} {fs : List (Str × V)} {H G : Hp} (hx : H x = some (.ins C dx fs)) (e : Ex x H G) : ∀ (d : PyData) (v : V), Dp K H v d → Dp K G v d
  | .none, _, h => by
    cases h
    exact .non
  | .bool b, _, h => by
    cases h
    exact .bl b
  | .int i, _, h => by
    cases h
    exact .int i
  | .str x, _, h => by
    cases h
    exact .str x
  | .list ds, _, h => by
    cases h with
    | lst hs ha => exact .lst (sqL_ex hx e hs) (dps_ex hx e ds _ ha)
  | .tuple ds, _, h => by
    cases h with
    | tup hs ha => exact .tup (sqT_ex hx e hs) (dps_ex hx e ds _ ha)
  | .dict _, _, h => nomatch h
theorem dps_ex {K : PySem.W.Frag} {x C dx : Addr} {fs : List (Str × V)} {H G : Hp} (hx : H x = some (.ins C dx fs)) (e : Ex x H G) : ∀ (ds : List PyData) (vs : List V), DpAll K H vs ds → DpAll K G vs ds
  | [], _, h => by
    cases h
    exact .nil
  | d :: ds, _, h => by
    cases h with
    | cons h1 h2 => exact .cons (dp_ex hx e d _ h1) (dps_ex hx e ds _ h2)
end
theorem sqA_ex {K : PySem.W.Frag} {t : Bool} {x C dx a : Addr} {fs : List (Str × V)} {H G : Hp} {xs : List V} (hx : H x = some (.ins C dx fs)) (e : Ex x H G) (h : SqA t K H a xs) : SqA t K G a xs := by
  cases t
  · exact sqL_ex hx e h
  · exact sqT_ex hx e h
end
end YY

set_option maxRecDepth 100000
set_option maxHeartbeats 4000000
namespace XX
open PySem PySem.Spec PyProof.Rows L2
/-! ### != of two lists of the same texts -/
theorem shaped_ints (ns : List Int) : SeqAt.shaped (.list (ns.map PyData.int)) = true := by
  have h1 : ∀ l : List Int, PyData.canLayAll0 (l.map PyData.int) = true := fun l => by
    induction l with
    | nil => rfl
    | cons i l ih =>
      rw [List.map_cons, PyData.canLayAll0, ih]
      rfl
  have h2 : ∀ l : List Int, PyData.depthAll (l.map PyData.int) = 0 := fun l => by
    induction l with
    | nil => rfl
    | cons i l ih =>
      rw [List.map_cons, PyData.depthAll, ih]
      rfl
  unfold SeqAt.shaped
  rw [PyData.canLay0, h1, decide_eq_true (show (PyData.list (ns.map PyData.int)).depth ≤ 64 from by show PyData.depthAll (ns.map PyData.int) + 1 ≤ 64; rw [h2]; decide)]
  rfl
end XX

set_option maxRecDepth 100000
set_option maxHeartbeats 4000000
namespace XX
open PySem PySem.Spec PyProof.Rows L2
/-! ### methods by their promise -/
structure MtC (P : Program) (w : World) (K : PySem.W.Frag) (mg : Str → Option Value) (base : Heap) (CX : CXT) (k : Nat) (C : Addr) (m : Str) (ps : List Str) (sp : Sp) : Prop where
  ex : ∃ (f : Addr) (fd : FuncData), FnOk P w K mg base CX k f fd ps sp ∧ Meth K C m f ∧ Binds K fd ps []
theorem MtC.mono {P : Program} {w : World} {K : PySem.W.Frag} {mg : Str → Option Value} {base : Heap} {CX : CXT} {j k : Nat} {C : Addr} {m : Str} {ps : List Str} {sp : Sp} (c : MtC P w K mg base CX j C m ps sp) (h : j ≤ k) : MtC P w K mg base CX k C m ps sp := by
  obtain ⟨f, fd, F, r⟩ := c.ex
  exact ⟨f, fd, F.mono h, r⟩
structure DefM (K : PySem.W.Frag) (C : Addr) (m q : Str) (st : Stmt) (ps : List Str) : Prop where
  ex : ∃ (f : Addr) (fd : FuncData), L2.Fun K m q st f fd ∧ Meth K C m f ∧ Binds K fd ps []
section
variable {P : Program} {w : World} {K : PySem.W.Frag} {mg : Str → Option Value} {base : Heap}
theorem DefM.ok {C : Addr} {m q : Str} {st : Stmt} {N ps : List Str} {k : Nat} {sp : Sp} (D : DefM K C m q st ps) (S : FnScope N ps (defScope st)) (len : ∀ vs H Q E, sp vs H Q E → vs.length = ps.length)
    (hbody : ∀ (f : Addr) (cdv : Value) (A : Around) (outer : List Env) (s : Shared) (H : Hp) (vs : List V) (Q : VK) (E : XK), Room k (A.deeper (envOfC q (defScope st) s.heap.objs.size f cdv)) → sp vs H Q E →
      ∃ t, PSs (cxOf CX0 P w K mg base N q (defScope st) f cdv A outer s H E).nox (defBody st) t ∧ t { nx := fun _ H' => Q .non H', rt := Q } (start N vs) H) : MtC P w K mg base CX0 (k + 1) C m ps sp := by
  obtain ⟨f, fd, F, hm, hb⟩ := D.ex
  exact ⟨f, fd, F.ok S len (hbody f), hm, hb⟩
theorem DefM.okX {C : Addr} {m q : Str} {st : Stmt} {N ps : List Str} {k : Nat} {sp : Sp} (D : DefM K C m q st ps) (S : FnScope N ps (defScope st)) (len : ∀ vs H Q E, sp vs H Q E → vs.length = ps.length)
    (hbody : ∀ (f : Addr) (cdv : Value) (A : Around) (outer : List Env) (s : Shared) (H : Hp) (vs : List V) (Q : VK) (E : XK), Room k (A.deeper (envOfC q (defScope st) s.heap.objs.size f cdv)) → sp vs H Q E →
      ∃ t, PSs (cxOf (L2.CX P w) P w K mg base N q (defScope st) f cdv A outer s H E) (defBody st) t ∧ t { nx := fun _ H' => Q .non H', rt := Q } (start N vs) H) : MtC P w K mg base (L2.CX P w) (k + 1) C m ps sp := by
  obtain ⟨f, fd, F, hm, hb⟩ := D.ex
  exact ⟨f, fd, F.okX S len (hbody f), hm, hb⟩
end
def tMethX (C : Addr) (m : Str) (sp : Sp) (E : L2.St → XK) (ta : TE) (t : TA) : TE := fun σ H Q => ta σ H fun x H1 => ∃ a dx fs, x = .ref a ∧ H1 a = some (.ins C dx fs) ∧ fs.lookup m = none ∧
  t σ H1 fun vs H2 => sp (x :: vs) H2 Q (E σ)
section
variable {X : Cx} {CX : CXT} {k : Nat} {C : Addr} {m : Str} {ps : List Str} {sp : Sp} {E : L2.St → XK} {pos apos : Pos} {e o : Expr} {es : List Expr} {ta : TE} {t : TA} {pl : Sem Bool}
theorem pe_m (he : PE X o ta) (c : Cls X.K C) (M : MtC X.prog X.w X.K X.mg X.base CX0 k C m ps sp) (hr : Room k X.A) (ha : PA X (e :: es) t)
    (hst : starEach (e :: es) X.env = (false, eval e X.env) :: starEach es X.env := by rfl) (hpl : (backTo pos (starEach es X.env)).any (·.1) = false := by rfl)
    (ht : eval (.Call (.Attribute o m apos) (e :: es) [] pos) X.env = (do
      let ov ← eval o X.env
      standAt apos.atName
      let (f, first) ← holding [ov] (getMethod ov m pl)
      callWith pos f first (backTo pos (starEach (e :: es) X.env)) (backToKw pos (keywordEach [] X.env))) := by rfl) :
    PE X (.Call (.Attribute o m apos) (e :: es) [] pos) (tMeth C m sp [] E0 ta t) := by
  obtain ⟨f, fd, F, hm, hb⟩ := M.ex
  exact pe_meth he c hm F hr hb .nil pass0 ha hst hpl ht
theorem pe_m0 (he : PE X o ta) (c : Cls X.K C) (M : MtC X.prog X.w X.K X.mg X.base CX0 k C m ps sp) (hr : Room k X.A)
    (ht : eval (.Call (.Attribute o m apos) [] [] pos) X.env = (do
      let ov ← eval o X.env
      standAt apos.atName
      let (f, first) ← holding [ov] (getMethod ov m pl)
      callWith pos f first (backTo pos (starEach [] X.env)) (backToKw pos (keywordEach [] X.env))) := by rfl) :
    PE X (.Call (.Attribute o m apos) [] [] pos) (tMeth C m sp [] E0 ta tNil) := by
  obtain ⟨f, fd, F, hm, hb⟩ := M.ex
  exact pe_meth0 he c hm F hr hb .nil pass0 ht
theorem passLAt {X : Cx} (σ : L2.St) : PassesAt (L2.CX X.prog X.w) X σ E0 := fun pins H s e s' I c => passL pins σ H s e s' I c
end
section
variable {X : Cx}
theorem pe_fldK {e : Expr} {f : Str} {pos : Pos} {ta : TE} (K : PySem.W.Frag) (h : X.K = K) (he : PE X e ta) (hb : attributeBase e f X.env (eval e X.env) = eval e X.env) : PE X (.Attribute e f pos) (tFld K ta f) := by
  subst h
  exact pe_fld he hb
theorem ix_tupK (K : PySem.W.Frag) (h : X.K = K) : IxR X (rIxT K) := by
  subst h
  exact ix_tup
theorem ix_listK (K : PySem.W.Frag) (h : X.K = K) : IxR X (rIxL K) := by
  subst h
  exact ix_list
end
end XX

set_option maxRecDepth 100000
set_option maxHeartbeats 4000000
namespace XX
open PySem PySem.Spec PyProof.Rows L2
/-! ### own operators of plain instances: ==, !=, len, [] -/
section
variable {X : Cx} {CX : CXT} {k : Nat} {f C : Addr} {fd : FuncData} {ps : List Str} {sp : Sp}
/-- the callee runs within a builtin -/
theorem run_at {pins : List (Addr × Obj)} {σ : L2.St} {H : Hp} {s : Shared} {Q : VK} {us : List Value} {vs : List V} {E : XK} {A : Around} (F : FnOk X.prog X.w X.K X.mg X.base CX k f fd ps sp) (hr : Room k A) (he : Env0 X.prog X.w X.K X.mg X.base A X.stack s H) (hb : Binds X.K fd ps []) (hx : PassesAt CX X σ E)
    (I : Inv X pins σ H s) (r : Vals vs us) (h : sp vs H Q E) : wpAny (model X.prog X.w) A (call (.ref f) us) (EP X pins σ Q) X.xe s := by
  have hl : us.length = ps.length := by rw [← r.length]; exact F.len _ _ _ _ h
  have b := hb s us I.kIn (by rw [List.append_nil]; exact hl)
  rw [List.append_nil] at b
  refine wpAny_call (codeAny_mono (F.run A X.stack s H ⟨us, []⟩ us vs Q E hr he b r h) fun r s' hq => ?_)
  cases r with
  | error e => exact hx pins H s e s' I hq
  | ok fl =>
    cases fl with
    | ret u => exact I.after hq
    | next => exact False.elim hq
    | brk => exact False.elim hq
    | cont => exact False.elim hq
/-- a value that is no instance above C: of C itself, or a tuple -/
def Beside (K : PySem.W.Frag) (C : Addr) (H : Hp) (y : V) : Prop := (∃ b dy gs, y = .ref b ∧ H b = some (.ins C dy gs)) ∨ (∃ b xs, y = .ref b ∧ SqT K H b xs)
theorem beside_look {pins : List (Addr × Obj)} {σ : L2.St} {H : Hp} {s : Shared} {M : Model} {y : V} {u : Value} (I : Inv X pins σ H s) (ry : RelV y u) (h : Beside X.K C H y) : ∃ tb, PySem.W.Looks M s.heap (typeOf u) tb ∧ (tb = .ref C ∨ tb = .type "tuple") := by
  rcases h with ⟨b, dy, gs, rfl, hb⟩ | ⟨b, xs, rfl, hb⟩
  · cases ry
    obtain ⟨mB, J, _⟩ := ins_get I.hok hb
    obtain ⟨od, J, _⟩ := J.look
    exact ⟨_, J.type, .inl rfl⟩
  · cases ry
    obtain ⟨its, r, pl, hz⟩ := I.tuple hb
    obtain ⟨o, ho, hc, n, hd⟩ := pl
    refine ⟨o.cls, (PySem.W.Looks.ld ho).andThen .now, .inr hc⟩
def rEqI (K : PySem.W.Frag) (C : Addr) (sp : Sp) : R2 := fun x y H Q => ∃ a dx fs, x = .ref a ∧ H a = some (.ins C dx fs) ∧ Beside K C H y ∧ sp [x, y] H (fun v H' => ∃ b, v = .bl b ∧ Q (.bl b) H') E0
theorem op_eqI (M : MtC X.prog X.w X.K X.mg X.base CX0 k C "__eq__" ["self", "other"] sp) (hn : PySem.W.notFirst X.K C (.type "tuple") = true) (hr : Room k X.A) : OpR X (compareOp .Eq) (rEqI X.K C sp) := by
  intro pins s σ H x y v u Q I rx ry h
  obtain ⟨a, dx, fs, rfl, ha, hb, hs⟩ := h
  obtain ⟨f, fd, F, hm, bi⟩ := M.ex
  cases rx
  obtain ⟨mA, J, _⟩ := ins_get I.hok ha
  obtain ⟨od, J, _⟩ := J.look
  obtain ⟨m, hF⟩ := I.fr
  obtain ⟨tb, ht, htb⟩ := beside_look (M := model X.prog X.w) I ry hb
  have hnf : PySem.W.notFirst X.K C tb = true := by
    rcases htb with rfl | rfl
    · simp [PySem.W.notFirst]
    · exact hn
  refine PySem.W.cmp_K (op := .Eq) (tb := tb) (by have := hr.un; omega) hF I.ok.mod.kin J ht hnf hm.at_ hm.fn ?_
  refine wpAny_mono (run_at F hr I.env0 bi (fun _ _ _ _ _ _ z => z.elim) I (us := [.ref a, u]) (vs := [.ref a, y]) (.cons rfl (.cons ry .nil)) hs) (fun w s' q => ?_) fun _ _ e => e
  obtain ⟨z, H', I', rz, b, rfl, q⟩ := q
  cases rz
  exact ⟨.bl b, H', I', rfl, q⟩
/-- len(o) -/
def rLenI (C : Addr) (sp : Sp) : List V → Hp → VK → Prop := fun xs H Q => ∃ a dx fs, xs = [.ref a] ∧ H a = some (.ins C dx fs) ∧ sp xs H (fun v H' => ∃ n : Int, v = .int n ∧ (0 ≤ n ∧ n < 2 ^ 63) ∧ Q (.int n) H') E0
theorem call_lenI (M : MtC X.prog X.w X.K X.mg X.base CX0 k C "__len__" ["self"] sp) (hr : Room (k + 1) X.A) : CallR X (.builtin "len") (rLenI C sp) := by
  intro pins s σ H xs us Q I r h
  obtain ⟨a, dx, fs, rfl, ha, hs⟩ := h
  obtain ⟨f, fd, F, hm, bi⟩ := M.ex
  obtain ⟨u, rfl, ru⟩ := vals1 r
  cases ru
  obtain ⟨mA, J, _⟩ := ins_get I.hok ha
  obtain ⟨od, J, _⟩ := J.look
  obtain ⟨m, hF⟩ := I.fr
  refine PySem.W.len_K hF I.ok.mod.kin J hm.at_ hm.fn ?_
  refine wpAny_mono (run_at F hr.in1 I.env0.in1 bi (fun _ _ _ _ _ _ z => z.elim) I (us := [.ref a]) (vs := [.ref a]) (.cons rfl .nil) hs) (fun w s' q => ?_) fun _ _ e => e
  obtain ⟨z, H', I', rz, n, rfl, hn, q⟩ := q
  obtain ⟨tk, rz⟩ := rz
  rw [rz]
  exact ⟨hn, .int n, H', I'.tok _, ⟨_, rfl⟩, q⟩
/-- o[i], by an own __getitem__ that may raise -/
def tIxI (C : Addr) (sp : Sp) (E : L2.St → XK) (ta tb : TE) : TE := fun σ H Q => ta σ H fun x H1 => tb σ H1 fun y H2 => ∃ a dx fs, x = .ref a ∧ H2 a = some (.ins C dx fs) ∧ sp [x, y] H2 Q (E σ)
end
end XX

set_option maxRecDepth 100000
set_option maxHeartbeats 4000000
namespace XX
open PySem PySem.Spec PyProof.Rows L2
/-! ### set(list of ints) -/
section
variable {prog : Program} {w : World} {A : Around} {E : Value → Shared → Prop} {s : Shared}
end
def rSetI (K : PySem.W.Frag) (w : World) : List V → Hp → VK → Prop := fun vs H Q => ∃ (l : Addr) (ns : List Int), vs = [.ref l] ∧ SqL K H l (ns.map V.int) ∧ ns.length ≤ 1000 ∧ ∀ p m, H p = none → m ≤ ns.length → Q (.ref p) (upd H p (SetO w p (fun z => decide (z ∈ ns)) m))
end XX

set_option maxRecDepth 100000
set_option maxHeartbeats 4000000
namespace XX
open PySem PySem.Spec PyProof.Rows L2
/-! ### comprehensions with two fors -/
def Lc1W (J : It) (g : TG) (tt : TT) (te : TE) (vs : List Nat) (σ : L2.St) (H1 : Hp) (D : Addr) (Nx : Hp → Prop) : Prop := ∃ W1 : Nat → Nat → Hp → Prop, (∃ m, W1 0 m H1) ∧ ∀ j k H, W1 j k H →
  (J.stop j H ∧ Nx H) ∨ (J.go j H ∧ ∃ Nx1 : Hp → Prop, (∀ H', Nx1 H' → ∃ k', k' < k ∧ W1 (j + 1) k' H') ∧ ∀ x H', J.yld j H x H' → g x (wipe σ vs) H' fun σ3 H5 => wipe σ3 vs = wipe σ vs ∧ tt σ3 H5 fun b H6 =>
    if b = true then te σ3 H6 fun y H7 => ∃ acc, H7 D = some (.lst acc) ∧ acc.length < sizeLine ∧ Nx1 (upd H7 D (.lst (acc ++ [y]))) else Nx1 H6)
def Lc2W (J : It) (g : TG) (tt : TT) (wi1 : TI) (g1 : TG) (tt1 : TT) (te : TE) (vs vs1 : List Nat) (σ : L2.St) (H1 : Hp) (Q : VK) : Prop := ∀ D, H1 D = none → ∃ W : Nat → Nat → Hp → Prop, (∃ m, W 0 m (upd H1 D (.lst []))) ∧ ∀ i m H, W i m H →
  (J.stop i H ∧ Q (.ref D) H) ∨ (J.go i H ∧ ∃ Nx : Hp → Prop, (∀ H', Nx H' → ∃ m', m' < m ∧ W (i + 1) m' H') ∧ ∀ x H', J.yld i H x H' → g x (wipe σ vs) H' fun σ2 H2 => wipe σ2 vs = wipe σ vs ∧ tt σ2 H2 fun b H3 =>
    if b = true then wi1 σ2 H3 fun J1 H4 => Lc1W J1 g1 tt1 te vs1 σ2 H4 D Nx else Nx H3)
theorem tLc2_eq {wi wi1 : TI} {g g1 : TG} {tt tt1 : TT} {te : TE} {vs vs1 : List Nat} {σ : L2.St} {H : Hp} {Q : VK} : tLc2 wi g tt wi1 g1 tt1 te vs vs1 σ H Q = wi σ H (fun J H1 => Lc2W J g tt wi1 g1 tt1 te vs vs1 σ H1 Q) := rfl
theorem lc1_it {J : It} {n : Nat} {G : Hp → Prop} {Y : Nat → Hp → V → Hp → Prop} (w : Walk J n G Y) {g : TG} {tt : TT} {te : TE} {vs : List Nat} {σ : L2.St} {H1 : Hp} {D : Addr} {Nx : Hp → Prop} (P : Nat → Hp → Prop) (h0 : P 0 H1) (hG : ∀ i H, i ≤ n → P i H → G H)
    (hs : ∀ i x H H', i < n → P i H → Y i H x H' → g x (wipe σ vs) H' fun σ2 H2 => wipe σ2 vs = wipe σ vs ∧ tt σ2 H2 fun b H3 =>
      if b = true then te σ2 H3 fun y H4 => ∃ acc, H4 D = some (.lst acc) ∧ acc.length < sizeLine ∧ P (i + 1) (upd H4 D (.lst (acc ++ [y]))) else P (i + 1) H3) (hd : ∀ H, P n H → Nx H) : Lc1W J g tt te vs σ H1 D Nx := by
  refine ⟨fun i m H => m = n - i ∧ i ≤ n ∧ P i H, ⟨n, by simp, Nat.zero_le _, h0⟩, ?_⟩
  rintro i m H ⟨rfl, hi, p⟩
  have q := hG i H hi p
  by_cases hlt : i < n
  · exact .inr ⟨w.goes i H hlt q, P (i + 1), fun H' p' => ⟨n - (i + 1), by omega, rfl, hlt, p'⟩, fun x H' y => hs i x H H' hlt p (w.yields i H x H' hlt q y)⟩
  · have e : i = n := by omega
    subst e
    exact .inl ⟨w.stops H q, hd H p⟩
theorem lc2_it {J : It} {n : Nat} {G : Hp → Prop} {Y : Nat → Hp → V → Hp → Prop} (w : Walk J n G Y) {g : TG} {tt : TT} {wi1 : TI} {g1 : TG} {tt1 : TT} {te : TE} {vs vs1 : List Nat} {σ : L2.St} {H1 : Hp} {Q : VK} (P : Addr → Nat → Hp → Prop) (h0 : ∀ D, H1 D = none → P D 0 (upd H1 D (.lst [])))
    (hG : ∀ D i H, i ≤ n → P D i H → G H)
    (hs : ∀ D i x H H', H1 D = none → i < n → P D i H → Y i H x H' → g x (wipe σ vs) H' fun σ2 H2 => wipe σ2 vs = wipe σ vs ∧ tt σ2 H2 fun b H3 =>
      if b = true then wi1 σ2 H3 fun J1 H4 => Lc1W J1 g1 tt1 te vs1 σ2 H4 D (P D (i + 1)) else P D (i + 1) H3) (hd : ∀ D H, H1 D = none → P D n H → Q (.ref D) H) : Lc2W J g tt wi1 g1 tt1 te vs vs1 σ H1 Q := by
  intro D hD
  refine ⟨fun i m H => m = n - i ∧ i ≤ n ∧ P D i H, ⟨n, by simp, Nat.zero_le _, h0 D hD⟩, ?_⟩
  rintro i m H ⟨rfl, hi, p⟩
  have q := hG D i H hi p
  by_cases hlt : i < n
  · exact .inr ⟨w.goes i H hlt q, P D (i + 1), fun H' p' => ⟨n - (i + 1), by omega, rfl, hlt, p'⟩, fun x H' y => hs D i x H H' hD hlt p (w.yields i H x H' hlt q y)⟩
  · have e : i = n := by omega
    subst e
    exact .inl ⟨w.stops H q, hd D H hD p⟩
/-! ### == of two dicts of data under the same keys -/
inductive HitsD (K : PySem.W.Frag) (H : Hp) (kb : List (Key × V)) : List (Key × V) → Bool → Prop
  | nil : HitsD K H kb [] true
  | hit {k : Key} {v y : V} {d e : PyData} {r : List (Key × V)} {b : Bool} : valV kb k = some y → Dp K H v d → Dp K H y e → SeqAt.shaped d = true → SeqAt.shaped e = true → HitsD K H kb r b → HitsD K H kb ((k, v) :: r) (PyData.eqv d e && b)
def rEqK (K : PySem.W.Frag) : R2 := fun x y H Q => ∃ (a b : Addr) (ka kb : List (Key × V)) (r : Bool), x = .ref a ∧ y = .ref b ∧ H a = some (.dK ka) ∧ H b = some (.dK kb) ∧ ka.length = kb.length ∧ HitsD K H kb ka r ∧ Q (.bl r) H
theorem pa_starK {X : Cx} {e : Expr} {es : List Expr} {te : TE} {t : TA} {p : Pos} (K : PySem.W.Frag) (h : X.K = K) (he : PE X e te) (hr : PA X es t) (hs : starEach (.Starred e p :: es) X.env = (true, eval e X.env) :: starEach es X.env := by rfl) : PA X (.Starred e p :: es) (StX.tStar K te t) := by
  subst h
  exact StX.pa_star he hr hs
end XX

set_option maxRecDepth 100000
set_option maxHeartbeats 4000000
namespace XX
open PySem PySem.Spec PyProof.Rows L2
/-! ### methods of built-ins where the frozen part is told (within try and except) -/
end XX

set_option maxRecDepth 100000
set_option maxHeartbeats 4000000
namespace XX
open PySem PySem.Spec PyProof.Rows L2
/-! ### defs that may raise, called outside of try too -/
section
variable {P : Program} {w : World} {K : PySem.W.Frag} {mg : Str → Option Value} {base : Heap}
theorem Def.okX {x : Str} {st : Stmt} {N ps : List Str} {k : Nat} {sp : Sp} (D : Def K mg x st ps) (S : FnScope N ps (defScope st)) (len : ∀ vs H Q E, sp vs H Q E → vs.length = ps.length)
    (hbody : ∀ (f : Addr) (cdv : Value) (A : Around) (outer : List Env) (s : Shared) (H : Hp) (vs : List V) (Q : VK) (E : XK), Room k (A.deeper (envOfC x (defScope st) s.heap.objs.size f cdv)) → sp vs H Q E →
      ∃ t, PSs (cxOf (L2.CX P w) P w K mg base N x (defScope st) f cdv A outer s H E) (defBody st) t ∧ t { nx := fun _ H' => Q .non H', rt := Q } (start N vs) H) : FnC P w K mg base (L2.CX P w) (k + 1) x ps sp := by
  obtain ⟨f, fd, F, hm, hb⟩ := D.ex
  exact ⟨f, fd, F.okX S len (hbody f), hm, F.kp, hb⟩
end
section
variable {X : Cx} {CX : CXT} {k : Nat} {x : Str} {ps : List Str} {sp : Sp} {p pos : Pos} {e : Expr} {es : List Expr} {t : TA} {E : L2.St → XK}
theorem pe_cX (c : FnC X.prog X.w X.K X.mg X.base CX k x ps sp) (hr : Room k X.A) (hx : ∀ σ, PassesAt CX X σ (E σ)) (hg : Gl X x) (ha : PA X (e :: es) t) (hdb : (x == ("__debug__" : Str)) = false := by decide)
    (h1 : starEach (e :: es) X.env = (false, eval e X.env) :: starEach es X.env := by rfl) (h2 : (backTo pos (starEach es X.env)).any (·.1) = false := by rfl) : PE X (.Call (.Name x p) (e :: es) [] pos) (tCallS sp E t) := by
  obtain ⟨f, fd, F, hm, hk, hb⟩ := c.ex
  exact pe_callS F hr hg hm hk hb hx ha hdb h1 h2
end
/-! ### dict comprehensions -/
def DcW (J : It) (g : TG) (tt : TT) (tk tv : TE) (vs : List Nat) (σ : L2.St) (H1 : Hp) (Q : VK) : Prop := ∀ D, H1 D = none → ∃ W : Nat → Nat → Hp → Prop, (∃ m, W 0 m (upd H1 D (.dK []))) ∧ ∀ i m H, W i m H →
  (J.stop i H ∧ Q (.ref D) H) ∨ (J.go i H ∧ ∃ Nx : Hp → Prop, (∀ H', Nx H' → ∃ m', m' < m ∧ W (i + 1) m' H') ∧ ∀ x H', J.yld i H x H' → g x (wipe σ vs) H' fun σ2 H2 => wipe σ2 vs = wipe σ vs ∧ tt σ2 H2 fun b H3 =>
    if b = true then tk σ2 H3 fun y H4 => tv σ2 H4 fun z H5 => ∃ kvs k, y = kV k ∧ H5 D = some (.dK kvs) ∧ kvs.length < sizeLine ∧ Nx (upd H5 D (.dK (putK kvs k z))) else Nx H3)
theorem tDc_eq {wi : TI} {g : TG} {tt : TT} {tk tv : TE} {vs : List Nat} {σ : L2.St} {H : Hp} {Q : VK} : tDc wi g tt tk tv vs σ H Q = wi σ H (fun J H1 => DcW J g tt tk tv vs σ H1 Q) := rfl
theorem dcw_it {J : It} {n : Nat} {G : Hp → Prop} {Y : Nat → Hp → V → Hp → Prop} (w : Walk J n G Y) {g : TG} {tt : TT} {tk tv : TE} {vs : List Nat} {σ : L2.St} {H1 : Hp} {Q : VK} (P : Addr → Nat → Hp → Prop) (h0 : ∀ D, H1 D = none → P D 0 (upd H1 D (.dK [])))
    (hG : ∀ D i H, i ≤ n → P D i H → G H)
    (hs : ∀ D i x H H', H1 D = none → i < n → P D i H → Y i H x H' → g x (wipe σ vs) H' fun σ2 H2 => wipe σ2 vs = wipe σ vs ∧ tt σ2 H2 fun b H3 =>
      if b = true then tk σ2 H3 fun y H4 => tv σ2 H4 fun z H5 => ∃ kvs k, y = kV k ∧ H5 D = some (.dK kvs) ∧ kvs.length < sizeLine ∧ P D (i + 1) (upd H5 D (.dK (putK kvs k z))) else P D (i + 1) H3) (hd : ∀ D H, H1 D = none → P D n H → Q (.ref D) H) : DcW J g tt tk tv vs σ H1 Q := by
  intro D hD
  refine ⟨fun i m H => m = n - i ∧ i ≤ n ∧ P D i H, ⟨n, by simp, Nat.zero_le _, h0 D hD⟩, ?_⟩
  rintro i m H ⟨rfl, hi, p⟩
  have q := hG D i H hi p
  by_cases hlt : i < n
  · exact .inr ⟨w.goes i H hlt q, P D (i + 1), fun H' p' => ⟨n - (i + 1), by omega, rfl, hlt, p'⟩, fun x H' y => hs D i x H H' hD hlt p (w.yields i H x H' hlt q y)⟩
  · have e : i = n := by omega
    subst e
    exact .inl ⟨w.stops H q, hd D H hD p⟩
end XX

set_option maxRecDepth 100000
set_option maxHeartbeats 4000000
namespace XX
open PySem PySem.Spec PyProof.Rows L2
/-! ### dict comprehensions whose keys are tuples -/
section
variable {X : Cx}
/-- D[b] = v by a comprehension, b a tuple of ints and texts -/
theorem put_tup {pn : List (Addr × Obj)} {J : L2.St} {hp : Hp} {sh : Shared} {Er : Value → Shared → Prop} {D b : Addr} {kt : List (List Key × V)} {key : List Key} {val : V} {u r : Value} {R : Unit → Shared → Prop} (units : X.A.units < cLine) (I : Inv X pn J hp sh)
    (atD : hp D = some (.dT kt)) (atb : hp b = some (.tup (key.map kV))) (few : kt.length < sizeLine) (ru : RelV (.ref b) u) (rv : RelV val r) (go : ∀ sh', Inv X pn J (upd hp D (.dT (putK kt key val))) sh' → R () sh') : wpAny (model X.prog X.w) X.A (dictSet D u r) R Er sh := by
  cases ru
  obtain ⟨_, low, xs, rel, dd⟩ := dt_of I.hok atD
  have e0 := Paired.length rel
  have e1 := length_putK kt key val
  refine wpAny_dictSet_heap (hsz := by omega) (show (tupleKind (mixKind X.prog X.w)).room X.A from units) (key_of I.hok atb) dd fun hx ddx same => go _ ?_
  obtain ⟨ob, es, ep, ho, p2, p3, p4, _, p5⟩ := ddx
  refine d_write I (by rw [atD]; exact True.intro) same ⟨ob, ho⟩ ⟨by omega, low, _, (rel.put key atb rv).keeps fun c ys ec => ?_, ob, es, ep, ho, p2, p3, p4, p5⟩
  exact (upd_ne (ne_of ec atD (fun z => nomatch z))).trans ec
/-- the turns of such a comprehension, D the new dict -/
def DcT (J : It) (g : TG) (tt : TT) (tk tv : TE) (vs : List Nat) (σ : L2.St) (H1 : Hp) (Q : VK) : Prop := ∀ D, H1 D = none → ∃ W : Nat → Nat → Hp → Prop, (∃ m, W 0 m (upd H1 D (.dT []))) ∧ ∀ i m H, W i m H →
  (J.stop i H ∧ Q (.ref D) H) ∨ (J.go i H ∧ ∃ Nx : Hp → Prop, (∀ H', Nx H' → ∃ m', m' < m ∧ W (i + 1) m' H') ∧ ∀ x H', J.yld i H x H' → g x (wipe σ vs) H' fun σ2 H2 => wipe σ2 vs = wipe σ vs ∧ tt σ2 H2 fun b H3 =>
    if b = true then tk σ2 H3 fun y H4 => tv σ2 H4 fun z H5 => ∃ kvs k b, y = .ref b ∧ H5 D = some (.dT kvs) ∧ H5 b = some (.tup (k.map kV)) ∧ kvs.length < sizeLine ∧ Nx (upd H5 D (.dT (putK kvs k z))) else Nx H3)
def tDcT (wi : TI) (g : TG) (tt : TT) (tk tv : TE) (vs : List Nat) : TE := fun σ H Q => wi σ H fun J H1 => DcT J g tt tk tv vs σ H1 Q
theorem tDcT_eq {wi : TI} {g : TG} {tt : TT} {tk tv : TE} {vs : List Nat} {σ : L2.St} {H : Hp} {Q : VK} : tDcT wi g tt tk tv vs σ H Q = wi σ H (fun J H1 => DcT J g tt tk tv vs σ H1 Q) := rfl
theorem dct_it {J : It} {n : Nat} {G : Hp → Prop} {Y : Nat → Hp → V → Hp → Prop} (w : Walk J n G Y) {g : TG} {tt : TT} {tk tv : TE} {vs : List Nat} {σ : L2.St} {H1 : Hp} {Q : VK} (P : Addr → Nat → Hp → Prop) (h0 : ∀ D, H1 D = none → P D 0 (upd H1 D (.dT [])))
    (hG : ∀ D i H, i ≤ n → P D i H → G H)
    (hs : ∀ D i x H H', H1 D = none → i < n → P D i H → Y i H x H' → g x (wipe σ vs) H' fun σ2 H2 => wipe σ2 vs = wipe σ vs ∧ tt σ2 H2 fun b H3 =>
      if b = true then tk σ2 H3 fun y H4 => tv σ2 H4 fun z H5 => ∃ kvs k b, y = .ref b ∧ H5 D = some (.dT kvs) ∧ H5 b = some (.tup (k.map kV)) ∧ kvs.length < sizeLine ∧ P D (i + 1) (upd H5 D (.dT (putK kvs k z))) else P D (i + 1) H3)
    (hd : ∀ D H, H1 D = none → P D n H → Q (.ref D) H) : DcT J g tt tk tv vs σ H1 Q := by
  intro D hD
  refine ⟨fun i m H => m = n - i ∧ i ≤ n ∧ P D i H, ⟨n, by simp, Nat.zero_le _, h0 D hD⟩, ?_⟩
  rintro i m H ⟨rfl, hi, p⟩
  have q := hG D i H hi p
  by_cases hlt : i < n
  · exact .inr ⟨w.goes i H hlt q, P D (i + 1), fun H' p' => ⟨n - (i + 1), by omega, rfl, hlt, p'⟩, fun x H' y => hs D i x H H' hD hlt p (w.yields i H x H' hlt q y)⟩
  · have e : i = n := by omega
    subst e
    exact .inl ⟨w.stops H q, hd D H hD p⟩
/-- what a block's frame may not be told of, kept while the block runs -/
theorem still {sh0 : Shared} {hp0 : Hp} {scope : Scope} {ce : Env} {fp : List Addr} {J : L2.St} {hp : Hp} {sh : Shared} (I : Inv (X.blk sh0 hp0 scope ce fp) [] J hp sh) (free : ∀ b ∈ fp, hp b = none) : ∀ b ∈ fp, FpOk (X.blk sh0 hp0 scope ce fp) [] hp b := fun b hb =>
  ⟨free b hb, (I.ok.exf b hb).1, I.ok.exfs b hb, .inl hb, (I.ok.exf b hb).2, fun p hp' => absurd (show p ∈ ([] : List (Addr × Obj)) ++ [] from hp') (by simp)⟩
/-- {k: v for target in iter if ..}, the keys tuples -/
theorem pe_dcT {kx vx tg iter : Expr} {ifs : List Expr} {scope : Scope} {own : List (Str × Nat)} {pos : Pos} {wi : TI} {g : TG} {tt : TT} {tk tv : TE} (units : X.A.units < cLine) (calm : X.calm = true) (nd : X.N.Nodup) (pi : PI X tg iter wi) (blk : BlkOk X.N X.env.scope scope own)
    (pg : ∀ (sh : Shared) (hp : Hp) (C : Addr) (cl : List (Str × Addr)) (fp : List Addr), PG (X.blk sh hp scope (compEnvC scope cl C X.env) fp) tg g) (pt : ∀ (sh : Shared) (hp : Hp) (C : Addr) (cl : List (Str × Addr)) (fp : List Addr), PTs (X.blk sh hp scope (compEnvC scope cl C X.env) fp) ifs tt)
    (pk : ∀ (sh : Shared) (hp : Hp) (C : Addr) (cl : List (Str × Addr)) (fp : List Addr), PE (X.blk sh hp scope (compEnvC scope cl C X.env) fp) kx tk) (pv : ∀ (sh : Shared) (hp : Hp) (C : Addr) (cl : List (Str × Addr)) (fp : List Addr), PE (X.blk sh hp scope (compEnvC scope cl C X.env) fp) vx tv)
    (fold : ∀ x, foldedSetIterable iter X.env x = pure x := by intro _; rfl) : PE X (.DictComp kx vx [⟨tg, iter, ifs, 0⟩] scope pos) (tDcT wi g tt tk tv (own.map (·.2))) := by
  refine ⟨fun pn sh J hp R I q => ?_⟩
  rw [arm_eval_DictComp]
  have cellsThere : ∀ nm ∈ scope.names, nm.2 = .free → ∃ c, X.env.cells.lookup nm.1 = some c := fun nm hn ef => (blk.free nm hn ef).elim (fun z => I.ok.has _ (.inl z)) fun z => I.ok.has _ (.inr z)
  refine wpAny_comprehension_free (use := none) rfl fold (closure_ok cellsThere) blk.kind (fun nm hn el => (blk.uniq nm hn).trans (congrArg some el)) (thn (pi.run pn sh J hp _ I q) fun xv sh1 hx => thn hx fun itv sh2 h2 => ?_)
  obtain ⟨it, fp, tn, Jt, hp2, rfl, I2, T, st2, ft, turns⟩ := h2
  refine wpAny_newObj_type (newEnv_comp ?_)
  obtain ⟨D, eD⟩ : ∃ D, D = sh2.heap.objs.size := ⟨_, rfl⟩
  have freeD : hp2 D = none := I2.hok.fresh (by rw [eD]; exact Nat.le_refl _)
  obtain ⟨W, ⟨m0, w0⟩, turn⟩ := turns D freeD
  obtain ⟨sh3, e3⟩ : ∃ sh3 : Shared, sh3 = { sh2 with heap := sh2.heap.push { cls := .type "dict", data := .dict #[] } } := ⟨_, rfl⟩
  have heap3 : sh3.heap = sh2.heap.push { cls := .type "dict", data := .dict #[] } := by rw [e3]
  obtain ⟨hp3, eh3⟩ : ∃ hp3 : Hp, hp3 = upd hp2 D (.dT []) := ⟨_, rfl⟩
  have I3 : Inv X pn J hp3 sh3 := by
    rw [e3, eh3, eD]
    exact I2.laid (t' := sh2.toks) (fun b o e => Heap.get?_push_of_some _ e) (Nat.le_refl _) (dt_empty sh2.heap I2.big)
  have frame : ∀ b ∈ fp, FpOk X pn hp3 b ∧ b < sh3.heap.objs.size := fun b hb => by
    obtain ⟨o, ob, _⟩ := T.obj _ _ st2 b hb
    have lt := Heap.lt_size ob
    refine ⟨⟨?_, (ft b hb).2⟩, by rw [heap3, Heap.size_push]; exact Nat.lt_succ_of_lt lt⟩
    rw [eh3, upd_ne (by rw [eD]; exact Nat.ne_of_lt lt)]
    exact (ft b hb).1
  have nofp : ∀ b ∈ fp, hp3 b = none := fun b hb => (frame b hb).1.1
  have I4 := block_start I3 blk nd frame
  obtain ⟨cl, ecl⟩ : ∃ cl, cl = cellsFrom (sh3.heap.objs.size + 1) scope.names (cloFrom X.env.cells scope.names []) := ⟨_, rfl⟩
  obtain ⟨L, eL⟩ : ∃ L, L = sh3.heap.objs.size := ⟨_, rfl⟩
  rw [← ecl, ← eL] at I4
  have qg := pg sh3 hp3 L cl fp
  have qt := pt sh3 hp3 L cl fp
  have qk := pk sh3 hp3 L cl fp
  have qv := pv sh3 hp3 L cl fp
  have cL : (compEnvC scope cl L X.env).locals = L := rfl
  obtain ⟨sh4, e4⟩ : ∃ sh4 : Shared, sh4 = { sh3 with heap := pushCells (sh3.heap.push { cls := .type "dict", data := .dict #[] }) scope.names } := ⟨_, rfl⟩
  have st4 : tn 0 sh4.heap := T.keep _ _ _ (T.keep _ _ sh3.heap st2 fun b _ o e => by rw [heap3]; exact Heap.get?_push_of_some _ e) fun b _ o e => by rw [e4]; exact pushCells_keeps _ _ _ _ (Heap.get?_push_of_some _ e)
  rw [← e4] at I4
  have post : codeAny (model X.prog X.w) X.A (.compLoop (.DictComp kx vx [⟨tg, iter, ifs, 0⟩] scope pos) 0 (.ref it) (.ref D) (compEnvC scope cl L X.env)) (compPost (model X.prog X.w) X.A X.xe none (EP X pn J R) (.ref D) L) sh4 := by
    refine compLoop_anyD (fun n t => ∃ i hq, Inv (X.blk sh3 hp3 scope (compEnvC scope cl L X.env) fp) [] (wipe J (own.map (·.2))) hq t ∧ tn i t.heap ∧ (∀ b ∈ fp, hq b = none) ∧ W i n hq) ?_ m0 ⟨0, hp3, I4, st4, nofp, by rw [eh3]; exact w0⟩
    rintro n t5 ⟨i, hp5, I5, st5, n5, w5⟩
    rcases turn i n hp5 w5 with ⟨stop, fin⟩ | ⟨goes, Nx, onward, step⟩
    · refine thnF (T.done (X.blk sh3 hp3 scope (compEnvC scope cl L X.env) fp) rfl rfl rfl calm i [] t5 _ hp5 (fun _ _ => False) I5 (still I5 n5) st5 stop) fun r t6 ⟨er, I6⟩ => ?_
      subst er
      have back : Inv X pn J hp5 t6 := I3.call' (ch := fp) I6.os I6.base I6.hok I6.bare fun b hb => ⟨(frame b hb).1.2.2.2.1, (frame b hb).1.2.1, (frame b hb).1.2.2.2.2.1, (frame b hb).1.2.2.2.2.2⟩
      have freeL : hp5 L = none := I6.free
      obtain ⟨m, hm, _⟩ := I6.loc
      have hm : t6.heap.Ns L m := hm
      obtain ⟨f0, f1, f2, f3, f4, f5⟩ := I3.fpOk (b := L) (by rw [eL]; exact Nat.le_refl _) freeL
      exact ⟨m, hm, fun hx sb => ⟨.ref D, hp5, back.turned (t' := t6.toks) (fun b o hb e => (sb.2 b hb).trans e) f0 f1 f3 f4 f5, rfl, fin⟩⟩
    · refine thnF (T.item (X.blk sh3 hp3 scope (compEnvC scope cl L X.env) fp) rfl rfl rfl calm i [] t5 _ hp5 (fun _ _ => False) I5 (still I5 n5) st5 goes) fun r t6 ⟨u, er, h6⟩ => ?_
      subst er
      refine thnF h6 fun _ t7 ⟨x, hp7, I7, r7, y7, st7, n7⟩ => ?_
      refine thnF (qg.run _ t7 _ hp7 x u _ (I7.pinned (still I7 n7) (T.obj _ _ st7)) r7 (step x hp7 y7)) fun _ t8 ⟨σ8, hp8, I8, hw, q8⟩ => ?_
      refine thnF (qt.run _ t8 σ8 hp8 _ I8 q8) fun c t9 ⟨hp9, I9, q9⟩ => ?_
      have again : ∀ {t' : Shared} {h' : Hp}, Inv (X.blk sh3 hp3 scope (compEnvC scope cl L X.env) fp) ([] ++ pinsAt fp t7.heap) σ8 h' t' → Nx h' → ∃ m, m < n ∧ ∃ i hq, Inv (X.blk sh3 hp3 scope (compEnvC scope cl L X.env) fp) [] (wipe J (own.map (·.2))) hq t' ∧ tn i t'.heap ∧ (∀ b ∈ fp, hq b = none) ∧ W i m hq := fun {t' h'} I' nx => by
        obtain ⟨m', less, w'⟩ := onward h' nx
        have pinned : ∀ b ∈ fp, ∀ o, t7.heap.get? b = some o → t'.heap.get? b = some o ∧ h' b = none := fun b hb o e => ⟨(I'.pin (b, o) (List.mem_append_right _ (List.mem_append_right _ (mem_pinsAt hb e)))).1, (I'.pin (b, o) (List.mem_append_right _ (List.mem_append_right _ (mem_pinsAt hb e)))).2.1⟩
        refine ⟨m', less, i + 1, h', (I'.unpinned (pins := [])).weak (by rw [← hw, wipe_length]) (fun j v e => ?_), T.keep _ _ _ st7 fun b hb o e => (pinned b hb o e).1, fun b hb => ?_, w'⟩
        · rw [← hw] at e
          exact (wipe_some e).1
        · obtain ⟨o, ob, _⟩ := T.obj _ _ st7 b hb
          exact (pinned b hb o ob).2
      cases c with
      | false =>
        simp only [Bool.false_eq_true, if_false] at q9 ⊢
        exact again I9 q9
      | true =>
        simp only [if_true] at q9 ⊢
        refine thnF (qk.run _ t9 σ8 hp9 _ I9 q9) fun z t10 ⟨yk, hp10, I10, r10, q10⟩ => ?_
        refine thnF (qv.run _ t10 σ8 hp10 _ I10 q10) fun z2 t11 ⟨yv, hp11, I11, r11, kt, key, b, ek, atD, atb, few, nx⟩ => ?_
        subst ek
        exact put_tup (X := X.blk sh3 hp3 scope (compEnvC scope cl L X.env) fp) units I11 atD atb few r10 r11 fun t12 I12 => again I12 nx
  rw [← eD, ← e3, ← ecl, ← eL, ← e4]
  exact codeAny_compStart_dict post (T.self X.A 0 _ _ _ st4 post)
end
end XX

set_option maxRecDepth 100000
set_option maxHeartbeats 4000000
namespace YY
open PySem PySem.Spec PyProof.Rows L2 XX
local macro_rules | `(tactic| walk_at "wp") => `(tactic| simp only [tPar3, rIndex, tAug, rExt2, tSeq, tNext, tAsg, tPar, gName, tCB, tCons, tNil, tVar, tC, tOp, tUn, rI, rI0, rU, tLst, tTup, tFor_eq, iRng1, iRng2, iList, iTup, tRet, tRetN, tDrop, tIfS, tTest, tB, tAnd, tOr, tNot, tIf, tAndV, tOrV, tNotV, tCall, tBM, tBM0, rIxL, rIxT, rAppend, tLc_eq, gSub, rSetL, rEq, rNe, rMulS, rIxS, tRevT, gTup, gCons, gNil, wipe, tYes, LcEnd, tDisp, tPairs, tChain, tSl, tPart, tNoPart, rSlT, rSlL, rCatT, rCat, rRep, rIsD, V.ty.injEq, iZipB, tDNewK, tXf, wMA, wAs, rLenK, tLenSetS, rReprE, tVeI, tOst, tErr, tMkO, sFld, tFld, rIsE2, tMakeS, rListStr, tDNotIn, tDIn, tDGet, rSetD, gSub, iEnumA, rIxD, iStr, rIn, rEqI, rLenI, tIxI, rSetI, rSortedSet, rEqK, rEqV, tCallS, tDc_eq, tDcT_eq, tLc2_eq, tMeth, tMethX, WE, tM1, StX.tMakeR, rCatA, StX.tMakeR, StX.tStar, tLock, tLockE, iItems, iKeys,
  cxOf_K, cxOf_noxK, L2.start, List.map_cons, List.map_nil, List.length_cons, List.length_nil, Nat.reduceAdd, Nat.reduceSub, List.replicate_succ, List.replicate_zero, List.replicate, List.cons_append, List.nil_append, List.getElem?_cons_zero, List.getElem?_cons_succ, List.set_cons_zero, List.set_cons_succ, List.append_nil,
  Option.some.injEq, V.int.injEq, V.ref.injEq, V.bl.injEq, V.str.injEq, List.cons.injEq, and_true, true_and, exists_eq_left', exists_eq_left, exists_and_left, exists_and_right, exists_const, bool_ite_true, bool_ite_false, dec_ite, ndec_ite, reduceCtorEq, false_or, or_false, false_and, and_false, decide_eq_true_eq, and_assoc, reduceIte, ite_true, ite_false, Int.zero_add])


abbrev sCls : Stmt := inClass (topS 27) 11
abbrev sChg : Stmt := inClass (topS 27) 13
/-! ### classes -/
def clsStep (size : Nat) (xss : List (List Int)) : List (List Int) := xss.flatMap fun st => (List.range size).map fun v => st ++ [((v : Nat) : Int)]
def clsOf (size : Nat) : Nat → List (List Int)
  | 0 => [[]]
  | n + 1 => clsStep size (clsOf size n)
theorem clsStep_take {size : Nat} {xss : List (List Int)} {i : Nat} {st : List Int} (h : xss[i]? = some st) : clsStep size (xss.take (i + 1)) = clsStep size (xss.take i) ++ (List.range size).map fun v => st ++ [((v : Nat) : Int)] := by
  unfold clsStep
  rw [List.take_succ, h, List.flatMap_append]
  simp
theorem clsStep_len {size : Nat} (xss : List (List Int)) : (clsStep size xss).length = xss.length * size := by
  unfold clsStep
  induction xss with
  | nil => simp
  | cons a l ih =>
    rw [List.flatMap_cons, List.length_append, ih, List.length_map, List.length_range, List.length_cons, Nat.succ_mul]
    omega
theorem clsOf_len (s : Nat) : ∀ n, (clsOf s n).length = s ^ n
  | 0 => rfl
  | n + 1 => by rw [clsOf, clsStep_len, clsOf_len s n, Nat.pow_succ]
theorem clsOf_few {s n : Nat} (hs : s ≤ 3) (hn : n ≤ 2) : (clsOf s n).length ≤ 9 := by
  rw [clsOf_len]
  exact Nat.le_trans (Nat.pow_le_pow_left hs n) (Nat.le_trans (Nat.pow_le_pow_right (by decide) hn) (by decide))
theorem clsOf_mem (s : Nat) : ∀ n, ∀ st ∈ clsOf s n, st.length = n
  | 0, st, h => by
    rw [clsOf, List.mem_singleton] at h
    rw [h]
    rfl
  | n + 1, st, h => by
    rw [clsOf, clsStep, List.mem_flatMap] at h
    obtain ⟨s0, h0, h1⟩ := h
    obtain ⟨v, _, rfl⟩ := List.mem_map.mp h1
    rw [List.length_append, clsOf_mem s n s0 h0]
    rfl
/-- tuples of ints, each at its address -/
def TupR (H : Hp) (ps : List Addr) (xss : List (List Int)) : Prop := Paired (fun p xs => H p = some (.tup (xs.map V.int))) ps xss
theorem TupR.same {H G : Hp} {ps : List Addr} {xss : List (List Int)} (e : Same H G) (h : TupR H ps xss) : TupR G ps xss := L2.Paired.mapP h fun _ _ h => e _ _ h
theorem TupR.mut {H : Hp} {D : Addr} {as : List V} {o : HO} {ps : List Addr} {xss : List (List Int)} (e : H D = some (.lst as)) (h : TupR H ps xss) : TupR (upd H D o) ps xss := L2.Paired.mapP h fun p xs h => by
  rw [upd_ne (fun z => by rw [z, e] at h; cases h)]
  exact h
theorem TupR.get {H : Hp} : ∀ {ps : List Addr} {xss : List (List Int)} {i : Nat} {v : V}, TupR H ps xss → (ps.map V.ref)[i]? = some v → ∃ p st, v = .ref p ∧ xss[i]? = some st ∧ H p = some (.tup (st.map V.int))
  | _, _, i, v, .nil, e => by simp at e
  | _, _, 0, v, .cons h t, e => by
    cases e
    exact ⟨_, _, rfl, rfl, h⟩
  | _, _, i + 1, v, .cons h t, e => by
    rw [List.map_cons, List.getElem?_cons_succ] at e
    obtain ⟨p, st, h1, h2, h3⟩ := TupR.get t e
    exact ⟨p, st, h1, by rw [List.getElem?_cons_succ]; exact h2, h3⟩
theorem TupR.len {H : Hp} {ps : List Addr} {xss : List (List Int)} (h : TupR H ps xss) : ps.length = xss.length := by
  unfold TupR at h
  exact h.length
theorem back_none {H G : Hp} {p : Addr} (e : Same H G) (h : G p = none) : H p = none := by
  cases q : H p with
  | none => rfl
  | some o =>
    rw [e _ _ q] at h
    cases h
theorem pi_listK {X : Cx} {tg e : Expr} {te : TE} (K : PySem.W.Frag) (h : X.K = K) (he : PE X e te) : PI X tg e (iList K te) := by
  subst h
  exact pi_list he
theorem sqT_mutT {K : PySem.W.Frag} {H : Hp} {a D : Addr} {xs : List V} {kvs : List (List Key × V)} {o : HO} (h : SqT K H a xs) (e : H D = some (.dT kvs)) : SqT K (upd H D o) a xs := by
  rcases h with (h | ⟨u, h⟩) | h
  · exact .inl (.inl (by rw [upd_ne (fun z => by rw [z, e] at h; cases h)]; exact h))
  · exact .inl (.inr ⟨u, by rw [upd_ne (fun z => by rw [z, e] at h; cases h)]; exact h⟩)
  · exact .inr h
theorem inl_inj : ∀ {a b : List Int}, (a.map Sum.inl : List Key) = b.map Sum.inl → a = b
  | [], [], _ => rfl
  | [], _ :: _, h => nomatch h
  | _ :: _, [], h => nomatch h
  | x :: a, y :: b, h => by
    rw [List.map_cons, List.map_cons] at h
    injection h with h1 h2
    injection h1 with h1
    rw [h1, inl_inj h2]
theorem sl_tupAK {X : Cx} (K : PySem.W.Frag) (e : X.K = K) : SlR X (rSlA K) := by
  subst e
  exact sl_tupA
/-- of an instance (that may be in the making): its registers and its size -/
def RegsAt (K : PySem.W.Frag) (C : Addr) (H : Hp) (x : Addr) (ws : List Str) (s : Nat) : Prop := ∃ (dx : Addr) (fs : List (Str × V)) (wr : Addr), H x = some (.ins C dx fs) ∧ fs.lookup ("registers" : Str) = some (.ref wr) ∧ fs.lookup ("size" : Str) = some (.int (s : Nat)) ∧ fs.lookup ("classes" : Str) = none ∧ fs.lookup ("_changed_at" : Str) = none ∧ SqT K H wr (ws.map V.str)
theorem RegsAt.same {K : PySem.W.Frag} {C x : Addr} {H G : Hp} {ws : List Str} {s : Nat} (e : Same H G) (h : RegsAt K C H x ws s) : RegsAt K C G x ws s := by
  obtain ⟨dx, fs, wr, h1, h2, h3, h4, h5, h6⟩ := h
  exact ⟨dx, fs, wr, e _ _ h1, h2, h3, h4, h5, Same.sqT e h6⟩
section
variable {P : Program} {w : World} {K : PySem.W.Frag} {mg : Str → Option Value} {base : Heap}
def spCls (K : PySem.W.Frag) (C : Addr) : Sp := fun vs H Q _ => ∃ (x : Addr) (ws : List Str) (s : Nat), vs = [.ref x] ∧ RegsAt K C H x ws s ∧ ws.length ≤ 2 ∧ s ≤ 3 ∧ ∀ D G ps, Same H G → H D = none → G D = some (.lst (ps.map V.ref)) → TupR G ps (clsOf s ws.length) → Q (.ref D) G
theorem scCls : FnScope ["self", "found", "_", "start", "value"] ["self"] (defScope sCls) := ⟨rfl, rfl, rfl, by decide +kernel, rfl, by decide +kernel, by decide +kernel⟩
theorem c_cls {C : Addr} (D : DefM K C "classes" "Program.classes" sCls ["self"]) (n_range : mg "range" = none) (pc : ProgC K C) : MtC P w K mg base CX0 1 C "classes" ["self"] (spCls K C) := by
  refine D.ok scCls (fun vs H Q E h => ?_) (fun f cdv A outer s H vs Q E hr h => ?_)
  · obtain ⟨x, ws, s, rfl, _⟩ := h
    rfl
  · obtain ⟨x, ws, s, rfl, hp, hw2, hs3, k⟩ := h
    have sc := scCls
    refine ⟨_, (pss_cut (ps_set (i := 1) sc.nd rfl (Or.inl rfl) (pe_lst (pa_cons (pe_tup pa_nil) pa_nil)))
 (pss_cut (ps_for PassesOwn.never rfl (pi_tup (pe_fld (pv 0) rfl)) (pg_name (i := 2) sc.nd rfl (Or.inl rfl))
   (pss_one (ps_setLc2 (i := 1) (own := [("start", 3), ("value", 4)]) (vs1 := [4]) (g := gName 3) (tt := tYes) (g1 := gName 4) (tt1 := tYes) rfl sc.nd rfl rfl rfl (pi_list (pv 1)) (blkOk_by (N := ["self", "found", "_", "start", "value"]) (sc := defScope sCls) (by decide +kernel)) (by decide) (fun _ _ _ _ _ => pg_name (i := 3) sc.nd rfl (Or.inl rfl)) (fun _ _ _ _ _ => pts_nil) (fun _ _ _ _ _ => pi_range1 (by rfl) n_range (pa_cons (pe_fldK K rfl (pv 0) rfl) pa_nil)) (fun _ _ _ _ _ => pg_name (i := 4) sc.nd rfl (Or.inl rfl)) (fun _ _ _ _ _ => pts_nil) (fun _ _ _ _ _ => pe_tup (pa_starK K rfl (pv 3) (pa_cons (pv 4) pa_nil))))))
 (pss_one (ps_ret (pv 1))))), ?_⟩
    obtain ⟨dx, fs, wr, hx, hf1, hf2, _, _, hwr⟩ := _root_.id hp
    refine ⟨fun τ G => ∃ l p, τ = [some (V.ref x), some (V.ref l), none, none, none] ∧ Same H G ∧ H l = none ∧ G l = some (.lst [.ref p]) ∧ G p = some (.tup []), ?_, ?_⟩
    · walk_at "wp"
      have hz := sizeLine_eq
      exact ⟨by omega, fun p hp => ⟨by omega, fun l hl => ⟨(same_new hp).trans (same_new hl), back_none (same_new hp) hl, p, upd_same, same_new hl _ _ upd_same⟩⟩⟩
    rintro τ G ⟨l, p, rfl, g1, hl, hl1, hp1⟩
    have hz := sizeLine_eq
    refine ⟨fun τ G => ∃ l ps v2, τ = [some (V.ref x), some (V.ref l), v2, none, none] ∧ Same H G ∧ H l = none ∧ G l = some (.lst (ps.map V.ref)) ∧ TupR G ps (clsOf s ws.length), ?_, ?_⟩
    · walk_at "wp"
      refine ⟨C, dx, _, g1 _ _ hx, pc.cls, pc.n1, _, hf1, _, rfl, ⟨_, Same.sqT g1 hwr⟩, ?_⟩
      refine loop_it (walk_tup (xs := ws.map V.str)) (fun i τ G2 => ∃ l ps v2, τ = [some (V.ref x), some (V.ref l), v2, none, none] ∧ Same H G2 ∧ H l = none ∧ G2 l = some (.lst (ps.map V.ref)) ∧ TupR G2 ps (clsOf s i)) ⟨l, [p], none, rfl, g1, hl, hl1, .cons hp1 .nil⟩ (fun i τ G _ ⟨_, _, _, _, h, _⟩ => Same.sqT h hwr) ?_ ?_
      · rintro i y τ F F' hi ⟨l2, ps, v2, rfl, f1, hl2, hl3, hps⟩ ⟨rfl, hy⟩
        rw [List.length_map] at hi
        walk_at "wp"
        have hfew : (clsOf s i).length ≤ 9 := clsOf_few hs3 (by omega)
        have elen : ps.length = (clsOf s i).length := hps.len
        refine ⟨⟨_, SqL.of hl3⟩, lc2_it walk_list (fun D j G2 => Same F' G2 ∧ ∃ qs, G2 D = some (.lst (qs.map V.ref)) ∧ TupR G2 qs (clsStep s ((clsOf s i).take j))) (fun D hD => ⟨same_new hD, [], upd_same, .nil⟩) (fun D j G2 _ h => SqL.of (h.1 _ _ hl3)) ?_ ?_⟩
        · rintro D j y2 B B' hD hj ⟨b1, qs, hq, hqs⟩ ⟨rfl, hy2⟩
          rw [List.length_map] at hj
          obtain ⟨pj, st, rfl, hst2, hpj⟩ := hps.get hy2
          walk_at "wp"
          refine ⟨C, dx, _, (f1.trans b1) _ _ hx, pc.cls, pc.n2, _, hf2, (s : Int), rfl, by omega, by omega, ?_⟩
          rw [show ((s : Nat) : Int).toNat = s by omega]
          refine lc1_it (walk_range (lo := 0)) (fun m G3 => Same F' G3 ∧ ∃ qs, G3 D = some (.lst (qs.map V.ref)) ∧ TupR G3 qs (clsStep s ((clsOf s i).take j) ++ (List.range m).map fun v => st ++ [((v : Nat) : Int)])) ⟨b1, qs, hq, by rw [List.range_zero, List.map_nil, List.append_nil]; exact hqs⟩ (fun _ _ _ _ => True.intro) ?_ ?_
          · rintro m y3 R R' hm ⟨r1, ts, ht1, hts⟩ ⟨rfl, rfl⟩
            walk_at "wp"
            have hst1 := clsOf_mem s i st (List.mem_of_getElem? hst2)
            have hmin : min j (clsOf s i).length * s ≤ 9 * 3 := Nat.mul_le_mul (Nat.le_trans (Nat.min_le_right _ _) hfew) hs3
            refine ⟨st.map V.int, .inl (SqT.of (r1 _ _ hpj)), ?_, fun q hq => ⟨ts.map V.ref, same_new hq _ _ ht1, ?_, same_mut (r1.trans (same_new hq)) hD, ts ++ [q], by rw [upd_same, List.map_append]; rfl, ?_⟩⟩
            · rw [List.length_append, List.length_map, hst1]
              show i + 1 ≤ sizeLine
              omega
            · rw [List.length_map, hts.len, List.length_append, List.length_map, List.length_range, clsStep_len, List.length_take]
              omega
            · rw [List.range_succ, List.map_append, ← List.append_assoc]
              have hqD : q ≠ D := fun z => by
                rw [z, ht1] at hq
                cases hq
              refine Paired.snoc (TupR.mut (same_new hq _ _ ht1) (hts.same (same_new hq))) ?_
              rw [upd_ne hqD, List.map_append]
              exact upd_same
          · rintro R ⟨r1, ts, ht1, hts⟩
            refine ⟨r1, ts, ht1, ?_⟩
            rw [clsStep_take hst2]
            exact hts
        · rintro D B hD ⟨b1, qs, hq, hqs⟩
          rw [List.length_map, elen, List.take_length] at hqs
          exact ⟨D, rfl, f1.trans b1, back_none f1 hD, qs, hq, hqs⟩
      · rintro τ G2 ⟨l2, ps, v2, rfl, f1, hl2, hl3, hps⟩
        rw [List.length_map] at hps
        exact ⟨l2, ⟨v2, rfl⟩, f1, hl2, ps, hl3, hps⟩
    rintro τ G2 ⟨l2, ps, v2, rfl, f1, hl2, hl3, hps⟩
    walk_at "wp"
    exact k l2 G2 ps f1 hl2 hl3 hps
/-- the table of one value: each class, and what it is behind that value in place p -/
def TabAt (K : PySem.W.Frag) (G : Hp) (d : Addr) (s n p v : Nat) : Prop := ∃ kvs : List (List Key × V), G d = some (.dT kvs) ∧ ∀ c ∈ clsOf s n, ∃ b, valV kvs (c.map Sum.inl) = some (V.ref b) ∧ SqT K G b ((c.set p ((v : Nat) : Int)).map V.int)
theorem TabAt.same {K : PySem.W.Frag} {G F : Hp} {d : Addr} {s n p v : Nat} (e : Same G F) (h : TabAt K G d s n p v) : TabAt K F d s n p v := by
  obtain ⟨kvs, h1, h2⟩ := h
  refine ⟨kvs, e _ _ h1, fun c hc => ?_⟩
  obtain ⟨b, h3, h4⟩ := h2 c hc
  exact ⟨b, h3, Same.sqT e h4⟩
theorem TabAt.mut {K : PySem.W.Frag} {G : Hp} {D d : Addr} {s n p v : Nat} {as : List V} {o : HO} (e : G D = some (.lst as)) (h : TabAt K G d s n p v) : TabAt K (upd G D o) d s n p v := by
  obtain ⟨kvs, h1, h2⟩ := h
  refine ⟨kvs, ?_, fun c hc => ?_⟩
  · rw [upd_ne (fun z => by rw [z, e] at h1; cases h1)]
    exact h1
  · obtain ⟨b, h3, h4⟩ := h2 c hc
    exact ⟨b, h3, sqT_mut h4 e⟩
def lcSc (st : Stmt) : Scope := match defBody st with
  | [_, .If _ [.Return (some (.ListComp _ _ sc _)) _] _ _, _] => sc
  | _ => defScope st
def lcSc2 (st : Stmt) : Scope := match defBody st with
  | [_, _, .Return (some (.ListComp _ _ sc _)) _] => sc
  | _ => defScope st
theorem len_two {c : List Int} (h : c.length = 2) : ∃ a b, c = [a, b] := by
  match c, h with
  | [a, b], _ => exact ⟨a, b, rfl⟩
theorem set_zero (c : List Int) (a : Int) (h : 0 < c.length) : V.int a :: cutV (c.map V.int) (some 1) none = (c.set 0 a).map V.int := by
  match c, h with
  | b :: l, _ =>
    rw [List.map_cons, List.set_cons_zero, List.map_cons]
    congr 1
    exact cut_tail _ _
def spChg (K : PySem.W.Frag) (C : Addr) : Sp := fun vs H Q _ => ∃ (x : Addr) (ws : List Str) (s p : Nat), vs = [.ref x, .int (p : Nat)] ∧ RegsAt K C H x ws s ∧ ws.length ≤ 2 ∧ s ≤ 3 ∧ p < ws.length ∧
  ∀ (D : Addr) (G : Hp) (ds : List Addr), Same H G → H D = none → G D = some (.lst (ds.map V.ref)) → ds.length = s → (∀ (v : Nat) d, ds[v]? = some d → TabAt K G d s ws.length p v) → Q (.ref D) G
theorem scChg : FnScope ["self", "place", "kinds", "kind", "value"] ["self", "place"] (defScope sChg) := ⟨rfl, rfl, rfl, by decide +kernel, rfl, by decide +kernel, by decide +kernel⟩
theorem c_chg {C : Addr} (D : DefM K C "_changed_at" "Program._changed_at" sChg ["self", "place"]) (n_range : mg "range" = none) (pc : ProgC K C) (cC : MtC P w K mg base CX0 1 C "classes" ["self"] (spCls K C)) : MtC P w K mg base CX0 2 C "_changed_at" ["self", "place"] (spChg K C) := by
  refine D.ok scChg (fun vs H Q E h => ?_) (fun f cdv A outer s H vs Q E hr h => ?_)
  · obtain ⟨x, ws, s, p, rfl, _⟩ := h
    rfl
  · obtain ⟨x, ws, sz, p, rfl, hp, hw2, hs3, hpw, k⟩ := h
    have sc := scChg
    have hu : (A.deeper (envOfC "Program._changed_at" (defScope sChg) s.heap.objs.size f cdv)).units < cLine := by have := hr.un; omega
    refine ⟨_, (pss_cut (ps_set (i := 2) sc.nd rfl (Or.inr rfl) (pe_m0 (pv 0) pc.cls cC hr))
      (pss_cons (ps_if (pt_cmpR op_eq (pv 1) pe_int (nomark _)) (pss_one (ps_ret (pe_lc (own := [("value", 4)]) (g := gName 4) (tt := tYes) rfl sc.nd (pi_range1 (by rfl) n_range (pa_cons (pe_fld (pv 0) rfl) pa_nil)) (blkOk_by (N := ["self", "place", "kinds", "kind", "value"]) (sc := defScope sChg) (by decide +kernel)) (fun _ _ _ _ _ => (pg_name (i := 4) sc.nd rfl (Or.inr rfl))) (fun _ _ _ _ _ => pts_nil)
        (fun _ _ _ _ _ => (pe_dcT (own := [("kind", 3)]) (g := gName 3) (tt := tYes) hu rfl sc.nd (pi_listK K rfl (pv 2)) (blkOk_by (N := ["self", "place", "kinds", "kind", "value"]) (sc := relS (lcSc sChg) (defScope sChg)) (by decide +kernel)) (fun _ _ _ _ _ => (pg_name (i := 3) sc.nd rfl (Or.inl rfl))) (fun _ _ _ _ _ => pts_nil) (fun _ _ _ _ _ => (pv 3))
          (fun _ _ _ _ _ => (pe_tup (pa_cons (pv 4) (pa_starK K rfl (pe_slice (sl_tupAK K rfl) (pv 3) (po_some pe_int) po_none) pa_nil))))))))) pss_nil)
      (pss_one (ps_ret (pe_lc (own := [("value", 4)]) (g := gName 4) (tt := tYes) rfl sc.nd (pi_range1 (by rfl) n_range (pa_cons (pe_fld (pv 0) rfl) pa_nil)) (blkOk_by (N := ["self", "place", "kinds", "kind", "value"]) (sc := defScope sChg) (by decide +kernel)) (fun _ _ _ _ _ => (pg_name (i := 4) sc.nd rfl (Or.inr rfl))) (fun _ _ _ _ _ => pts_nil)
        (fun _ _ _ _ _ => (pe_dcT (own := [("kind", 3)]) (g := gName 3) (tt := tYes) hu rfl sc.nd (pi_listK K rfl (pv 2)) (blkOk_by (N := ["self", "place", "kinds", "kind", "value"]) (sc := relS (lcSc2 sChg) (defScope sChg)) (by decide +kernel)) (fun _ _ _ _ _ => (pg_name (i := 3) sc.nd rfl (Or.inl rfl))) (fun _ _ _ _ _ => pts_nil) (fun _ _ _ _ _ => (pv 3))
          (fun _ _ _ _ _ => (pe_tup (pa_cons (pe_ix (ix_tupK K rfl) (pv 3) pe_int (fun _ _ => rfl)) (pa_cons (pv 4) pa_nil))))))))))), ?_⟩
    obtain ⟨dx, fs, wr, hx, hf1, hf2, hf3, hf4, hwr⟩ := _root_.id hp
    refine ⟨fun τ G => ∃ l ps, τ = [some (V.ref x), some (V.int (p : Nat)), some (V.ref l), none, none] ∧ Same H G ∧ H l = none ∧ G l = some (.lst (ps.map V.ref)) ∧ TupR G ps (clsOf sz ws.length), ?_, ?_⟩
    · walk_at "wp"
      exact ⟨dx, fs, hx, hf3, x, ws, sz, rfl, hp, hw2, hs3, fun D G ps e hD hG hps => ⟨D, rfl, e, hD, ps, hG, hps⟩⟩
    rintro τ G ⟨l, ps, rfl, g, hl, hl1, hps⟩
    have hz := sizeLine_eq
    have few : (clsOf sz ws.length).length ≤ 9 := clsOf_few hs3 hw2
    have elen := hps.len
    walk_at "wp"
    refine ⟨rfl, ite2 (fun c0 => ?_) fun c0 => ?_⟩
    · have ep : p = 0 := by omega
      subst ep
      refine ⟨C, dx, fs, g _ _ hx, pc.cls, pc.n2, _, hf2, (sz : Int), rfl, by omega, by omega, ?_⟩
      rw [show ((sz : Nat) : Int).toNat = sz by omega]
      refine lcw_it (walk_range (lo := 0)) (fun D i G2 => Same G G2 ∧ G D = none ∧ ∃ ds : List Addr, ds.length = i ∧ G2 D = some (.lst (ds.map V.ref)) ∧ ∀ (v : Nat) d, ds[v]? = some d → TabAt K G2 d sz ws.length 0 v) (fun D hD => ⟨same_new hD, hD, [], rfl, upd_same, fun v d h => by simp at h⟩) (fun _ _ _ _ _ => True.intro) ?_ ?_
      · rintro D i y B B' hD hi ⟨b1, nD, ds, el, hds, tabs⟩ ⟨rfl, rfl⟩
        walk_at "wp"
        refine ⟨⟨_, SqL.of (b1 _ _ hl1)⟩, ?_⟩
        refine dct_it walk_list (fun D2 j F => Same B' F ∧ B' D2 = none ∧ ∃ kvs : List (List Key × V), F D2 = some (.dT kvs) ∧ kvs.length ≤ j ∧ ∀ (m : Nat) c, m < j → (clsOf sz ws.length)[m]? = some c → ∃ b, valV kvs (c.map Sum.inl) = some (V.ref b) ∧ SqT K F b ((c.set 0 ((i : Nat) : Int)).map V.int)) (fun D2 hD2 => ⟨same_new hD2, hD2, [], upd_same, Nat.zero_le _, fun m c h => by omega⟩) (fun D2 j F _ h => SqL.of (h.1 _ _ (b1 _ _ hl1))) ?_ ?_
        · rintro D2 j y2 F F' hD2 hj ⟨f1, nD2, kvs, hk1, hk2, hk3⟩ ⟨rfl, hy2⟩
          obtain ⟨pj, c, rfl, hc, hpj⟩ := hps.get hy2
          have hpj2 : SqT K F' pj (c.map V.int) := SqT.of ((b1.trans f1) _ _ hpj)
          have hlc := clsOf_mem sz _ c (List.mem_of_getElem? hc)
          have eset := set_zero c ((i : Nat) : Int) (by omega)
          rw [List.length_map, elen] at hj
          walk_at "wp"
          refine sl_res hpj2 fun r1 F2 s1 hr1 => ⟨r1, rfl, _, .inl hr1, ?_⟩
          rw [eset]
          have el1 : (cutV (c.map V.int) (some 1) none).length + 1 = c.length := by
            have z := congrArg List.length eset
            rw [List.length_cons, List.length_map, List.length_set] at z
            exact z
          refine ⟨by rw [el1]; omega, fun q hq => ?_⟩
          have s3 := s1.trans (same_new (o := .tup ((c.set 0 ((i : Nat) : Int)).map V.int)) hq)
          have hq1 : (upd F2 q (.tup ((c.set 0 ((i : Nat) : Int)).map V.int))) q = some (.tup ((c.set 0 ((i : Nat) : Int)).map V.int)) := upd_same
          generalize upd F2 q (.tup ((c.set 0 ((i : Nat) : Int)).map V.int)) = F3 at s3 hq1 ⊢
          have hkD := s3 _ _ hk1
          refine ⟨kvs, hkD, c.map Sum.inl, ?_, by omega, same_mut (f1.trans s3) nD2, nD2, _, upd_same, ?_, fun m c' hm hc' => ?_⟩
          · rw [List.map_map]
            exact s3 _ _ ((b1.trans f1) _ _ hpj)
          · have := length_putK kvs (c.map Sum.inl) (V.ref q)
            omega
          · rw [valV_put]
            by_cases ek : (c'.map Sum.inl : List Key) = c.map Sum.inl
            · have ec : c' = c := inl_inj ek
              subst ec
              rw [if_pos rfl]
              exact ⟨q, rfl, sqT_mutT (SqT.of hq1) hkD⟩
            · rw [if_neg ek]
              have hmj : m < j := by
                rcases Nat.lt_or_eq_of_le (Nat.le_of_lt_succ hm) with z | z
                · exact z
                · subst z
                  rw [hc] at hc'
                  cases hc'
                  exact absurd rfl ek
              obtain ⟨b, e1, e2⟩ := hk3 m c' hmj hc'
              exact ⟨b, e1, sqT_mutT (Same.sqT s3 e2) hkD⟩
        · rintro D2 F hD2 ⟨f1, nD2, kvs, hk1, hk2, hk3⟩
          have hdF := f1 _ _ hds
          refine ⟨_, hdF, by rw [List.length_map]; omega, same_mut (b1.trans f1) nD, nD, ds ++ [D2], by rw [List.length_append, el]; rfl, by rw [upd_same, List.map_append]; rfl, fun v d hv => ?_⟩
          by_cases c : v < ds.length
          · rw [List.getElem?_append_left c] at hv
            exact TabAt.mut hdF ((tabs v d hv).same f1)
          · rw [List.getElem?_append_right (by omega)] at hv
            have ev : v - ds.length = 0 := by
              rcases Nat.eq_zero_or_pos (v - ds.length) with z | z
              · exact z
              · rw [List.getElem?_eq_none (by rw [List.length_singleton]; omega)] at hv
                cases hv
            rw [ev] at hv
            cases hv
            have ev2 : v = i := by omega
            subst ev2
            refine TabAt.mut hdF ⟨kvs, hk1, fun c hc => ?_⟩
            obtain ⟨m, hm⟩ := List.getElem?_of_mem hc
            refine hk3 m c ?_ hm
            rw [List.length_map, elen]
            exact (List.getElem?_eq_some_iff.mp hm).1
      · rintro D B hD ⟨b1, nD, ds, el, hds, tabs⟩
        exact k D B ds (g.trans b1) (back_none g nD) hds el tabs
    · have ep : p = 1 := by omega
      subst ep
      have ew : ws.length = 2 := by omega
      refine ⟨C, dx, fs, g _ _ hx, pc.cls, pc.n2, _, hf2, (sz : Int), rfl, by omega, by omega, ?_⟩
      rw [show ((sz : Nat) : Int).toNat = sz by omega]
      refine lcw_it (walk_range (lo := 0)) (fun D i G2 => Same G G2 ∧ G D = none ∧ ∃ ds : List Addr, ds.length = i ∧ G2 D = some (.lst (ds.map V.ref)) ∧ ∀ (v : Nat) d, ds[v]? = some d → TabAt K G2 d sz ws.length 1 v) (fun D hD => ⟨same_new hD, hD, [], rfl, upd_same, fun v d h => by simp at h⟩) (fun _ _ _ _ _ => True.intro) ?_ ?_
      · rintro D i y B B' hD hi ⟨b1, nD, ds, el, hds, tabs⟩ ⟨rfl, rfl⟩
        walk_at "wp"
        refine ⟨⟨_, SqL.of (b1 _ _ hl1)⟩, ?_⟩
        refine dct_it walk_list (fun D2 j F => Same B' F ∧ B' D2 = none ∧ ∃ kvs : List (List Key × V), F D2 = some (.dT kvs) ∧ kvs.length ≤ j ∧ ∀ (m : Nat) c, m < j → (clsOf sz ws.length)[m]? = some c → ∃ b, valV kvs (c.map Sum.inl) = some (V.ref b) ∧ SqT K F b ((c.set 1 ((i : Nat) : Int)).map V.int)) (fun D2 hD2 => ⟨same_new hD2, hD2, [], upd_same, Nat.zero_le _, fun m c h => by omega⟩) (fun D2 j F _ h => SqL.of (h.1 _ _ (b1 _ _ hl1))) ?_ ?_
        · rintro D2 j y2 F F' hD2 hj ⟨f1, nD2, kvs, hk1, hk2, hk3⟩ ⟨rfl, hy2⟩
          obtain ⟨pj, c, rfl, hc, hpj⟩ := hps.get hy2
          have hpj2 : SqT K F' pj (c.map V.int) := SqT.of ((b1.trans f1) _ _ hpj)
          have hlc := clsOf_mem sz _ c (List.mem_of_getElem? hc)
          rw [List.length_map, elen] at hj
          walk_at "wp"
          obtain ⟨c0, c1, rfl⟩ := len_two (hlc.trans ew)
          refine ⟨_, hpj2, _, at_of (j := 0) rfl rfl, ?_⟩
          refine ⟨by decide, fun q hq => ?_⟩
          have s3 := (same_new (H := F') (o := .tup [V.int c0, V.int ((i : Nat) : Int)]) hq)
          have hq1 : (upd F' q (.tup [V.int c0, V.int ((i : Nat) : Int)])) q = some (.tup (([c0, c1].set 1 ((i : Nat) : Int)).map V.int)) := upd_same
          generalize upd F' q (.tup (([c0, c1].set 1 ((i : Nat) : Int)).map V.int)) = F3 at s3 hq1 ⊢
          have hkD := s3 _ _ hk1
          refine ⟨kvs, hkD, [c0, c1].map Sum.inl, ?_, by omega, same_mut (f1.trans s3) nD2, nD2, _, upd_same, ?_, fun m c' hm hc' => ?_⟩
          · rw [List.map_map]
            exact s3 _ _ ((b1.trans f1) _ _ hpj)
          · have := length_putK kvs ([c0, c1].map Sum.inl) (V.ref q)
            omega
          · rw [valV_put]
            by_cases ek : (c'.map Sum.inl : List Key) = [c0, c1].map Sum.inl
            · have ec : c' = [c0, c1] := inl_inj ek
              subst ec
              rw [if_pos rfl]
              exact ⟨q, rfl, sqT_mutT (SqT.of hq1) hkD⟩
            · rw [if_neg ek]
              have hmj : m < j := by
                rcases Nat.lt_or_eq_of_le (Nat.le_of_lt_succ hm) with z | z
                · exact z
                · subst z
                  rw [hc] at hc'
                  cases hc'
                  exact absurd rfl ek
              obtain ⟨b, e1, e2⟩ := hk3 m c' hmj hc'
              exact ⟨b, e1, sqT_mutT (Same.sqT s3 e2) hkD⟩
        · rintro D2 F hD2 ⟨f1, nD2, kvs, hk1, hk2, hk3⟩
          have hdF := f1 _ _ hds
          refine ⟨_, hdF, by rw [List.length_map]; omega, same_mut (b1.trans f1) nD, nD, ds ++ [D2], by rw [List.length_append, el]; rfl, by rw [upd_same, List.map_append]; rfl, fun v d hv => ?_⟩
          by_cases c : v < ds.length
          · rw [List.getElem?_append_left c] at hv
            exact TabAt.mut hdF ((tabs v d hv).same f1)
          · rw [List.getElem?_append_right (by omega)] at hv
            have ev : v - ds.length = 0 := by
              rcases Nat.eq_zero_or_pos (v - ds.length) with z | z
              · exact z
              · rw [List.getElem?_eq_none (by rw [List.length_singleton]; omega)] at hv
                cases hv
            rw [ev] at hv
            cases hv
            have ev2 : v = i := by omega
            subst ev2
            refine TabAt.mut hdF ⟨kvs, hk1, fun c hc => ?_⟩
            obtain ⟨m, hm⟩ := List.getElem?_of_mem hc
            refine hk3 m c ?_ hm
            rw [List.length_map, elen]
            exact (List.getElem?_eq_some_iff.mp hm).1
      · rintro D B hD ⟨b1, nD, ds, el, hds, tabs⟩
        exact k D B ds (g.trans b1) (back_none g nD) hds el tabs
end
end YY

set_option maxRecDepth 100000
set_option maxHeartbeats 4000000
namespace YY
open PySem PySem.Spec PyProof.Rows L2 XX
local macro_rules | `(tactic| walk_at "wp") => `(tactic| simp only [tPar3, rIndex, tAug, rExt2, tSeq, tNext, tAsg, tPar, gName, tCB, tCons, tNil, tVar, tC, tOp, tUn, rI, rI0, rU, tLst, tTup, tFor_eq, iRng1, iRng2, iList, iTup, tRet, tRetN, tDrop, tIfS, tTest, tB, tAnd, tOr, tNot, tIf, tAndV, tOrV, tNotV, tCall, tBM, tBM0, rIxL, rIxT, rAppend, tLc_eq, gSub, rSetL, rEq, rNe, rMulS, rIxS, tRevT, gTup, gCons, gNil, wipe, tYes, LcEnd, tDisp, tPairs, tChain, tSl, tPart, tNoPart, rSlT, rSlL, rCatT, rCat, rRep, rIsD, V.ty.injEq, iZipB, tDNewK, tXf, wMA, wAs, rLenK, tLenSetS, rReprE, tVeI, tOst, tErr, tMkO, sFld, tFld, rIsE2, tMakeS, rListStr, tDNotIn, tDIn, tDGet, rSetD, gSub, iEnumA, rIxD, iStr, rIn, rEqI, rLenI, tIxI, rSetI, rSortedSet, rEqK, rEqV, tCallS, tDc_eq, tDcT_eq, tLc2_eq, tMeth, tMethX, WE, tM1, StX.tMakeR, rCatA, StX.tMakeR, StX.tStar, tLock, tLockE, iItems, iKeys,
  cxOf_K, cxOf_noxK, L2.start, List.map_cons, List.map_nil, List.length_cons, List.length_nil, Nat.reduceAdd, Nat.reduceSub, List.replicate_succ, List.replicate_zero, List.replicate, List.cons_append, List.nil_append, List.getElem?_cons_zero, List.getElem?_cons_succ, List.set_cons_zero, List.set_cons_succ, List.append_nil,
  Option.some.injEq, V.int.injEq, V.ref.injEq, V.bl.injEq, V.str.injEq, List.cons.injEq, and_true, true_and, exists_eq_left', exists_eq_left, exists_and_left, exists_and_right, exists_const, bool_ite_true, bool_ite_false, dec_ite, ndec_ite, reduceCtorEq, false_or, or_false, false_and, and_false, decide_eq_true_eq, and_assoc, reduceIte, ite_true, ite_false, Int.zero_add])


/-- the places of the words -/
def plcK (ws : List Str) : List (Key × V) := ws.mapIdx fun i z => (.inr z, .int (i : Nat))
theorem plcK_snoc (ws : List Str) (z : Str) : plcK (ws ++ [z]) = plcK ws ++ [(.inr z, .int (ws.length : Nat))] := by
  unfold plcK
  rw [List.mapIdx_append]
  simp
theorem plcK_none {ws : List Str} {z : Str} (h : z ∉ ws) : valV (plcK ws) (.inr z) = none := by
  unfold valV
  rw [List.find?_eq_none.mpr]
  · rfl
  intro p hp
  obtain ⟨i, hi, rfl⟩ := List.mem_mapIdx.mp hp
  simp only [decide_eq_true_eq]
  intro e
  injection e with e
  exact h (e ▸ List.getElem_mem hi)
theorem plcK_get {ws : List Str} {i : Nat} : (plcK ws)[i]? = ws[i]?.map fun z => (.inr z, .int (i : Nat)) := by
  unfold plcK
  rw [List.getElem?_mapIdx]
theorem plcK_len (ws : List Str) : (plcK ws).length = ws.length := List.length_mapIdx ..
theorem regs_nodup {d : PyData} (h : regsB d = true) : (strsOf d).Nodup := by
  match d, h with
  | .tuple [a], h =>
    have h' : wordB a = true := h
    obtain ⟨z, rfl⟩ := wordB_str h'
    exact List.nodup_cons.mpr ⟨nofun, List.nodup_nil⟩
  | .tuple [a, b], h =>
    have h' : (wordB a && wordB b && !strEq a b) = true := h
    rw [Bool.and_eq_true, Bool.and_eq_true] at h'
    obtain ⟨z, rfl⟩ := wordB_str h'.1.1
    obtain ⟨z', rfl⟩ := wordB_str h'.1.2
    have e : strEq (.str z) (.str z') = false := by simpa using h'.2
    refine List.nodup_cons.mpr ⟨fun hm => ?_, List.nodup_cons.mpr ⟨nofun, List.nodup_nil⟩⟩
    have e2 : z = z' := List.mem_singleton.mp hm
    subst e2
    revert e
    unfold strEq
    simp
/-- the tables of all words -/
def ChAt (K : PySem.W.Frag) (G : Hp) (ch : Addr) (s : Nat) (ws : List Str) : Prop := ∃ kvs : List (Key × V), G ch = some (.dK kvs) ∧ ∀ (p : Nat) z, ws[p]? = some z → ∃ (l : Addr) (ds : List Addr), valV kvs (.inr z) = some (V.ref l) ∧ G l = some (.lst (ds.map V.ref)) ∧ ds.length = s ∧ ∀ (v : Nat) d, ds[v]? = some d → TabAt K G d s ws.length p v
theorem ChAt.same {K : PySem.W.Frag} {G F : Hp} {ch : Addr} {s : Nat} {ws : List Str} (e : Same G F) (h : ChAt K G ch s ws) : ChAt K F ch s ws := by
  obtain ⟨kvs, h1, h2⟩ := h
  refine ⟨kvs, e _ _ h1, fun p z hz => ?_⟩
  obtain ⟨l, ds, a1, a2, a3, a4⟩ := h2 p z hz
  exact ⟨l, ds, a1, e _ _ a2, a3, fun v d hd => (a4 v d hd).same e⟩
/-- nothing of these tables stands at D -/
structure Off (F : Hp) (D : Addr) : Prop where
  t : ∀ xs, F D ≠ some (.tup xs)
  f : ∀ o xs, F D ≠ some (.frz o (.tup xs))
  d : ∀ kvs, F D ≠ some (.dT kvs)
  l : ∀ xs, F D ≠ some (.lst xs)
theorem Off.sqT {K : PySem.W.Frag} {F : Hp} {D a : Addr} {xs : List V} {o : HO} (z : Off F D) (h : SqT K F a xs) : SqT K (upd F D o) a xs := by
  rcases h with (h | ⟨u, h⟩) | h
  · exact .inl (.inl (by rw [upd_ne (fun e => z.t _ (e ▸ h))]; exact h))
  · exact .inl (.inr ⟨u, by rw [upd_ne (fun e => z.f _ _ (e ▸ h))]; exact h⟩)
  · exact .inr h
theorem Off.tab {K : PySem.W.Frag} {F : Hp} {D d : Addr} {s n p v : Nat} {o : HO} (z : Off F D) (h : TabAt K F d s n p v) : TabAt K (upd F D o) d s n p v := by
  obtain ⟨kvs, h1, h2⟩ := h
  refine ⟨kvs, by rw [upd_ne (fun e => z.d _ (e ▸ h1))]; exact h1, fun c hc => ?_⟩
  obtain ⟨b, h3, h4⟩ := h2 c hc
  exact ⟨b, h3, z.sqT h4⟩
theorem Off.lst {F : Hp} {D a : Addr} {xs : List V} {o : HO} (z : Off F D) (h : F a = some (.lst xs)) : upd F D o a = some (.lst xs) := by
  rw [upd_ne (fun e => z.l _ (e ▸ h))]
  exact h
theorem off_dK {F : Hp} {D : Addr} {kvs : List (Key × V)} (e : F D = some (.dK kvs)) : Off F D := by
  constructor <;> intros <;> intro h <;> rw [e] at h <;> cases h
theorem off_frz {F : Hp} {D : Addr} {kvs : List (Key × V)} {od : Obj} (e : F D = some (.frz od (.dK kvs))) : Off F D := by
  constructor <;> intros <;> intro h <;> rw [e] at h <;> cases h
theorem nodup_not : ∀ {ws : List Str} {i : Nat} {z : Str}, ws.Nodup → ws[i]? = some z → z ∉ ws.take i
  | _ :: _, 0, _, _, _ => by simp
  | w :: ws, i + 1, z, h, e => by
    rw [List.getElem?_cons_succ] at e
    obtain ⟨h1, h2⟩ := List.nodup_cons.mp h
    rw [List.take_succ_cons, List.mem_cons]
    rintro (c | c)
    · exact h1 (c ▸ List.mem_of_getElem? e)
    · exact nodup_not h2 e c
theorem nodup_ix {ws : List Str} {i j : Nat} {z : Str} (h : ws.Nodup) (e : ws[i]? = some z) (f : ws[j]? = some z) (hj : j < i) : False := nodup_not h e (List.mem_of_getElem? (i := j) (by rw [List.getElem?_take, if_pos hj]; exact f))
/-- while x is in the making -/
theorem TabAt.ex {K : PySem.W.Frag} {x C dx : Addr} {fs : List (Str × V)} {G F : Hp} {d : Addr} {s n p v : Nat} (hx : G x = some (.ins C dx fs)) (e : Ex x G F) (h : TabAt K G d s n p v) : TabAt K F d s n p v := by
  obtain ⟨kvs, h1, h2⟩ := h
  refine ⟨kvs, e _ _ (ne_of h1 hx (by intro z; cases z)) h1, fun c hc => ?_⟩
  obtain ⟨b, h3, h4⟩ := h2 c hc
  exact ⟨b, h3, sqT_ex hx e h4⟩
theorem ChAt.ex {K : PySem.W.Frag} {x C dx : Addr} {fs : List (Str × V)} {G F : Hp} {ch : Addr} {s : Nat} {ws : List Str} (hx : G x = some (.ins C dx fs)) (e : Ex x G F) (h : ChAt K G ch s ws) : ChAt K F ch s ws := by
  obtain ⟨kvs, h1, h2⟩ := h
  refine ⟨kvs, e _ _ (ne_of h1 hx (by intro z; cases z)) h1, fun p z hz => ?_⟩
  obtain ⟨l, ds, a1, a2, a3, a4⟩ := h2 p z hz
  exact ⟨l, ds, a1, e _ _ (ne_of a2 hx (by intro z; cases z)) a2, a3, fun v d hd => (a4 v d hd).ex hx e⟩
def spProg (K : PySem.W.Frag) (C cR cN cW cB : Addr) : Sp := fun vs H Q E => ∃ (x dx : Addr) (rv wv zv : V) (rd wd zd : PyData), vs = [.ref x, rv, wv, zv] ∧ H x = some (.ins C dx []) ∧ DpE K H rv rd ∧ (itemsOf rd ≠ none → sm rd = true) ∧ Dp K H wv wd ∧ sm wd = true ∧ Dp K H zv zd ∧
  (regsB wd = false → ∀ G d, Same H G → G d = none → E (.ref cR) (some d) (upd G d (.xd [("value", wv)]))) ∧
  (regsB wd = true → btw zd 2 3 = false → ∀ G d, Same H G → G d = none → E (.ref cN) (some d) (upd G d (.xd [("value", zv)]))) ∧
  (regsB wd = true → btw zd 2 3 = true → rowsOk rd = false → ∀ G d, Same H G → G d = none → E (.ref cW) (some d) (upd G d (.xd [("value", rv)]))) ∧
  (regsB wd = true → btw zd 2 3 = true → ∀ ds, itemsOf rd = some ds → rowsOk rd = true → (∀ i, firstBad (strsOf wd) (intOf zd) ds = some i → ∀ G d, Same H G → G d = none → E (.ref cB) (some d) (upd G d (.xd [("value", .int (i : Nat))]))) ∧
    (firstBad (strsOf wd) (intOf zd) ds = none → ∀ G r t pl ch, Ex x H G → G x = some (.ins C dx [("registers", r), ("size", zv), ("rows", .ref t), ("end", .int (ds.length : Nat)), ("places", .ref pl), ("changed", .ref ch)]) → Dp K G r wd → Dp K G (.ref t) (.tuple ds) → G pl = some (.dK (plcK (strsOf wd))) → ChAt K G ch (intOf zd).toNat (strsOf wd) → Q .non G))
theorem scProg : FnScope ["self", "rows", "registers", "values", "index", "row", "place", "word"] ["self", "rows", "registers", "values"] (defScope sProgInit) := ⟨rfl, rfl, rfl, by decide +kernel, rfl, by decide +kernel, by decide +kernel⟩
section
variable {kws : List (Str × V)} {P : Program} {w : World} {K : PySem.W.Frag} {mg : Str → Option Value} {base : Heap}
theorem c_progInit {C f fI : Addr} {fd fdI : FuncData} {tk : Tok} {cR cN cW cB : Addr} (F : FunD K "__init__" "Program.__init__" (defArgs sProgInit) (defBody sProgInit) (defScope sProgInit) [] kws f fd) (T : Bl2 mg) (ER : Errs K mg fI cR cN cW cB)
    (cI : FnOk P w K mg base CX0 1 fI fdI ["self", "value"] (spErr K)) (hbI : Binds K fdI ["self", "value"] []) (gM : mg "MOST_ROWS" = some (.int 24 tk)) (c1 : FnC P w K mg base CX0 2 "are_registers" ["value"] (spAreRegs K)) (c2 : FnC P w K mg base CX0 2 "is_between" ["value", "least", "most"] (spIsBetween K))
    (c3 : FnC P w K mg base CX0 4 "is_row" ["row", "registers", "size", "end"] (spIsRow K)) (pc : ProgC K C) (cG : MtC P w K mg base CX0 2 C "_changed_at" ["self", "place"] (spChg K C)) : FnOk P w K mg base (L2.CX P w) 5 f fd ["self", "rows", "registers", "values"] (spProg K C cR cN cW cB) := by
  refine F.ok scProg (fun vs H Q E h => ?_) (fun cdv A outer s H vs Q E hr h => ?_)
  · obtain ⟨x, dx, rv, wv, zv, rd, wd, zd, rfl, _⟩ := h
    rfl
  · obtain ⟨x, dx, rv, wv, zv, rd, wd, zd, rfl, hx, hrv, hrs, hwv, hws, hzv, k1, k2, k3, k4⟩ := h
    have sc := scProg
    have hr1 : Room 2 _ := hr.mono (by decide)
    refine ⟨_, (pss_cut (ps_if (pt_not (pt_val (pe_c c1 hr1 rfl (pa_cons (pv 2) pa_nil)))) (pss_one (ps_err ER.R cI hbI hr1 rfl (takes_of rfl rfl rfl rfl) (pv 2) rfl)) pss_nil)
    (pss_cut (ps_if (pt_not (pt_val (pe_c c2 hr1 rfl (pa_cons (pv 3) (pa_cons pe_int (pa_cons pe_int pa_nil)))))) (pss_one (ps_err ER.N cI hbI hr1 rfl (takes_of rfl rfl rfl rfl) (pv 3) rfl)) pss_nil)
    (pss_cut (ps_if (PW.pt (pw_or (pt_not (pt_val (pe_callB (call_isE2 ty_list ty_tuple) (by rfl) T.n_isinstance (by decide +kernel) (pa_cons (pv 1) (pa_cons (pe_tup (pa_cons (pe_ty "list" (by rfl) T.n_list) (pa_cons (pe_ty "tuple" (by rfl) T.n_tuple) pa_nil))) pa_nil))))) (pw_or1 (pt_not (pt_chain op_le op_le pe_int (pe_callB call_len_seq (by rfl) T.n_len (by decide +kernel) (pa_cons (pv 1) pa_nil)) (pe_glob (v := .int 24) rfl gM ⟨_, rfl⟩)))))) (pss_one (ps_err ER.W cI hbI hr1 rfl (takes_of rfl rfl rfl rfl) (pv 1) rfl)) pss_nil)
    (pss_cut (ps_for (passes_of rfl) rfl (pi_enumA (isTupD rd) (by rfl) T.n_enumerate (pa_cons (pv 1) pa_nil)) (pg_tup (by rfl) (pgs_cons (pg_name (i := 4) sc.nd rfl (Or.inl rfl)) (pgs_cons (pg_name (i := 5) sc.nd rfl (Or.inl rfl)) pgs_nil)))
      (pss_one (ps_if (pt_not (pt_val (pe_c c3 hr rfl (pa_cons (pv 5) (pa_cons (pv 2) (pa_cons (pv 3) (pa_cons (pe_callB call_len_seq (by rfl) T.n_len (by decide +kernel) (pa_cons (pv 1) pa_nil)) pa_nil))))))) (pss_one (ps_err ER.B cI hbI hr1 rfl (takes_of rfl rfl rfl rfl) (pv 4) rfl)) pss_nil)))
    (pss_cut (ps_fld (pv 0) (pe_callTy call_tuple_of (by rfl) T.n_tuple (by decide +kernel) (pa_cons (pv 2) pa_nil)) rfl)
    (pss_cut (ps_fld (pv 0) (pv 3) rfl)
    (pss_cut (ps_fld (pv 0) (pe_callTy call_tuple_of (by rfl) T.n_tuple (by decide +kernel) (pa_cons (pv 1) pa_nil)) rfl)
    (pss_cut (ps_fld (pv 0) (pe_callB call_len_seq (by rfl) T.n_len (by decide +kernel) (pa_cons (pv 1) pa_nil)) rfl)
    (pss_cut (ps_fld (pv 0) (pe_dc (own := [("place", 6), ("word", 7)]) (g := gTup K 2 (gCons (gName 6) (gCons (gName 7) gNil))) (tt := tYes) rfl sc.nd (pi_enumA true (by rfl) T.n_enumerate (pa_cons (pv 2) pa_nil)) (blkOk_by (N := ["self", "rows", "registers", "values", "index", "row", "place", "word"]) (sc := defScope sProgInit) (by decide +kernel)) (fun _ _ _ _ _ => (pg_tup (by rfl) (pgs_cons (pg_name (i := 6) sc.nd rfl (Or.inl rfl)) (pgs_cons (pg_name (i := 7) sc.nd rfl (Or.inl rfl)) pgs_nil)))) (fun _ _ _ _ _ => pts_nil) (fun _ _ _ _ _ => (pv 7)) (fun _ _ _ _ _ => (pv 6))) rfl)
    (pss_one (ps_fld (pv 0) (pe_lock (pe_dc (own := [("place", 6), ("word", 7)]) (g := gTup K 2 (gCons (gName 7) (gCons (gName 6) gNil))) (tt := tYes) rfl sc.nd (pi_items (pe_fld (pv 0) rfl)) (blkOk_by (N := ["self", "rows", "registers", "values", "index", "row", "place", "word"]) (sc := defScope sProgInit) (by decide +kernel)) (fun _ _ _ _ _ => (pg_tup (by rfl) (pgs_cons (pg_name (i := 7) sc.nd rfl (Or.inl rfl)) (pgs_cons (pg_name (i := 6) sc.nd rfl (Or.inl rfl)) pgs_nil)))) (fun _ _ _ _ _ => pts_nil) (fun _ _ _ _ _ => (pv 7)) (fun _ _ _ _ _ => (pe_m (pv 0) pc.cls cG hr1 (pa_cons (pv 6) pa_nil))))) rfl))))))))))), ?_⟩
    refine ⟨fun τ G => τ = [some (V.ref x), some rv, some wv, some zv, none, none, none, none] ∧ Same H G ∧ regsB wd = true, ?_, ?_⟩
    · walk_at "wp"
      refine ⟨wv, wd, rfl, hwv, hws, fun G g => ⟨_, rfl, ?_⟩⟩
      cases e : regsB wd with
      | false => exact err_of2 ER.R.oex ER.R.no fun d hd => k1 e G d g hd
      | true => exact ⟨g, rfl⟩
    rintro τ G ⟨rfl, g, e1⟩
    refine ⟨fun τ G' => τ = [some (V.ref x), some rv, some wv, some zv, none, none, none, none] ∧ G' = G ∧ btw zd 2 3 = true, ?_, ?_⟩
    · walk_at "wp"
      refine ⟨zv, zd, 2, 3, rfl, dp_same g _ _ hzv, _, rfl, ?_⟩
      cases e : btw zd 2 3 with
      | false => exact err_of2 ER.N.oex ER.N.no fun d hd => k2 e1 e G d g hd
      | true => exact ⟨rfl, rfl⟩
    rintro τ G' ⟨rfl, rfl, e2⟩
    refine ⟨fun τ G2 => τ = [some (V.ref x), some rv, some wv, some zv, none, none, none, none] ∧ Same G' G2 ∧ rowsOk rd = true, ?_, ?_⟩
    · walk_at "wp"
      refine ⟨by decide, fun p hp => ?_⟩
      generalize hG : upd G' p (.tup [V.ty "list", V.ty "tuple"]) = G3
      have g3 : Same G' G3 := by
        rw [← hG]
        exact same_new hp
      have bad : rowsOk rd = false → _ := fun e => err_of2 (K := K) (v := rv) (H := G3) (Q := fun cls d H => E cls d H) ER.W.oex ER.W.no fun d hd => k3 e1 e2 e G3 d (g.trans g3) hd
      refine ⟨by rw [← hG]; exact upd_same, rd, dpE_same (g.trans g3) hrv, ?_⟩
      rw [isTy_seq]
      cases hi : itemsOf rd with
      | none => exact bad (by unfold rowsOk; rw [hi])
      | some ds =>
        obtain ⟨a, xs, rfl, hq, ha⟩ := seqOf hi (dpE_same (g.trans g3) hrv)
        have el := dpAll_len ha
        have er : rowsOk rd = (decide (1 ≤ ds.length) && decide (ds.length ≤ 24)) := by unfold rowsOk; rw [hi]
        rw [if_neg (show ¬ (!(some ds).isSome) = true from Bool.false_ne_true)]
        refine ⟨a, rfl, xs, sqA_or hq, ite2 (fun a1 => ite2 (fun a2 => ⟨g3, ?_⟩) fun a2 => ?_) fun a1 => ?_⟩
        · rw [er, decide_eq_true (show 1 ≤ ds.length by omega), decide_eq_true (show ds.length ≤ 24 by omega)]
          rfl
        · exact bad (by rw [er, decide_eq_false (show ¬ ds.length ≤ 24 by omega), Bool.and_false])
        · rw [if_pos (by rfl)]
          exact bad (by rw [er, decide_eq_false (show ¬ 1 ≤ ds.length by omega), Bool.false_and])
    rintro τ G2 ⟨rfl, g2, e3⟩
    have g12 := g.trans g2
    obtain ⟨ds, hi⟩ : ∃ ds, itemsOf rd = some ds := by
      unfold rowsOk at e3
      cases hi : itemsOf rd with
      | none =>
        rw [hi] at e3
        cases e3
      | some ds => exact ⟨ds, rfl⟩
    obtain ⟨k4b, k5⟩ := k4 e1 e2 ds hi e3
    have hsm := hrs (by rw [hi]; simp)
    obtain ⟨a, xs, rfl, hq, ha⟩ := seqOf hi (dpE_same g12 hrv)
    have el := dpAll_len ha
    obtain ⟨ew, hwz, wl1, wl2⟩ := regs_strs e1
    rw [ew] at hwv
    obtain ⟨ra, rfl, hra⟩ := dp_strs hwv
    obtain ⟨ez, rfl⟩ := int_btw e2 hzv
    have hd24 : ds.length ≤ 24 := by
      unfold rowsOk at e3
      rw [hi] at e3
      simp only [Bool.and_eq_true, decide_eq_true_eq] at e3
      exact e3.2
    have hmem : ∀ d ∈ ds, sm d = true := sm_items hi hsm
    -- row by row
    refine ⟨fun τ G3 => ∃ u1 u2, τ = [some (V.ref x), some (V.ref a), some (V.ref ra), some (V.int (intOf zd)), u1, u2, none, none] ∧ Same G2 G3 ∧ firstBad (strsOf wd) (intOf zd) ds = none, ?_, ?_⟩
    · walk_at "wp"
      refine ⟨⟨xs, hq⟩, ?_⟩
      refine loop_it walk_enumA (fun i τ G3 => ∃ u1 u2, τ = [some (V.ref x), some (V.ref a), some (V.ref ra), some (V.int (intOf zd)), u1, u2, none, none] ∧ Same G2 G3 ∧ ∀ (j : Nat) d, j < i → ds[j]? = some d → rowB (strsOf wd) (intOf zd) ds.length d = true)
        ⟨none, none, rfl, Same.refl _, fun j d h => by omega⟩ (fun i τ G3 _ ⟨_, _, _, e, _⟩ => sqA_same e hq) ?_ ?_
      · rintro i y τ G3 G4 hlt ⟨u1, u2, rfl, g3, ok⟩ ⟨q, y1, y2, rfl, hqq, rfl, hy1, hy2⟩
        cases hy1
        obtain ⟨rd', hr', hdp⟩ := dpAll_get ha hy2
        have s4 : Same G2 (upd G3 q (.tup [V.int (i : Nat), y2])) := g3.trans (same_new hqq)
        walk_at "wp"
        refine ⟨_, SqT.of upd_same, rfl, _, _, rfl, _, _, rfl, rfl, xs, sqA_or (sqA_same s4 hq), ?_⟩
        refine ⟨y2, rd', ra, strsOf wd, intOf zd, xs.length, rfl, dp_same s4 _ _ hdp, hmem _ (List.mem_of_getElem? hr'), Same.sqT (g12.trans s4) hra, fun G5 g5 => ⟨_, rfl, ?_⟩⟩
        rw [el]
        have bound : ∀ (j : Nat) d, j < i + 1 → ds[j]? = some d → rowB (strsOf wd) (intOf zd) ds.length rd' = true → rowB (strsOf wd) (intOf zd) ds.length d = true := fun j d hj hd hr => by
          by_cases c : j < i
          · exact ok j d c hd
          · have e : j = i := by omega
            subst e
            rw [hr'] at hd
            cases hd
            exact hr
        cases hb : rowB (strsOf wd) (intOf zd) ds.length rd' with
        | true => exact ⟨s4.trans g5, fun j d hj hd => bound j d hj hd hb⟩
        | false =>
          refine err_of2 (Q := fun cls d H => E cls d H) ER.B.oex ER.B.no fun d hd => k4b i ?_ G5 d ((g12.trans s4).trans g5) hd
          exact find_at hr' (by rw [hb]; rfl) fun j d hj hd' => by rw [ok j d hj hd']; rfl
      · rintro τ G3 ⟨u1, u2, rfl, g3, ok⟩
        refine ⟨⟨u1, u2, rfl⟩, g3, find_none fun j d hd => ?_⟩
        rw [ok j d (by rw [el]; exact (List.getElem?_eq_some_iff.mp hd).1) hd]
        rfl
    rintro τ G3 ⟨u1, u2, rfl, g3, e4⟩
    have g13 := g12.trans g3
    have hx3 : G3 x = some (.ins C dx []) := g13 _ _ hx
    have hq3 := sqA_same g3 hq
    have hra3 := Same.sqT g13 hra
    have hda3 := dps_same g3 _ _ ha
    have kk := k5 e4
    clear k5 k4b k4 k1 k2 k3
    refine ⟨fun τ G => τ = [some (V.ref x), some (V.ref a), some (V.ref ra), some (V.int (intOf zd)), u1, u2, none, none] ∧ Ex x G3 G ∧ G x = some (.ins C dx [("registers", .ref ra)]), ?_, ?_⟩
    · walk_at "wp"
      exact ⟨_, .inr ⟨hra3, C, dx, [], hx3, pc.cls, pc.n1, (by show 0 < 1000; decide), ex_upd, upd_same⟩⟩
    rintro τ G4 ⟨rfl, x4, hx4⟩
    refine ⟨fun τ G => τ = [some (V.ref x), some (V.ref a), some (V.ref ra), some (V.int (intOf zd)), u1, u2, none, none] ∧ Ex x G3 G ∧ G x = some (.ins C dx [("registers", .ref ra), ("size", .int (intOf zd))]), ?_, ?_⟩
    · walk_at "wp"
      exact ⟨C, dx, _, hx4, pc.cls, pc.n2, (by show 1 < 1000; decide), x4.trans ex_upd, upd_same⟩
    rintro τ G5 ⟨rfl, x5, hx5⟩
    refine ⟨fun τ G => τ = [some (V.ref x), some (V.ref a), some (V.ref ra), some (V.int (intOf zd)), u1, u2, none, none] ∧ ∃ t, Ex x G3 G ∧ G x = some (.ins C dx [("registers", .ref ra), ("size", .int (intOf zd)), ("rows", .ref t)]) ∧ SqT K G t xs, ?_, ?_⟩
    · walk_at "wp"
      have hq5 := sqA_ex hx3 x5 hq3
      refine ⟨xs, ?_⟩
      cases ht : isTupD rd with
      | true =>
        rw [ht] at hq5
        exact .inr ⟨hq5, C, dx, _, hx5, pc.cls, pc.n3, (by show 2 < 1000; decide), x5.trans ex_upd, a, upd_same, sqT_ex hx5 ex_upd hq5⟩
      | false =>
        rw [ht] at hq5
        exact .inl ⟨hq5, fun l hl => ⟨C, dx, _, same_new hl _ _ hx5, pc.cls, pc.n3, (by show 2 < 1000; decide), (x5.trans (ex_same (same_new hl))).trans ex_upd, l, upd_same, sqT_ex (same_new hl _ _ hx5) ex_upd (SqT.of upd_same)⟩⟩
    rintro τ G6 ⟨rfl, t, x6, hx6, ht6⟩
    refine ⟨fun τ G => τ = [some (V.ref x), some (V.ref a), some (V.ref ra), some (V.int (intOf zd)), u1, u2, none, none] ∧ Ex x G3 G ∧ G x = some (.ins C dx [("registers", .ref ra), ("size", .int (intOf zd)), ("rows", .ref t), ("end", .int (ds.length : Nat))]) ∧ SqT K G t xs, ?_, ?_⟩
    · walk_at "wp"
      refine ⟨xs, sqA_or (sqA_ex hx3 x6 hq3), C, dx, _, hx6, pc.cls, pc.n4, (by show 3 < 1000; decide), x6.trans ex_upd, ?_, sqT_ex hx6 ex_upd ht6⟩
      rw [upd_same, el]
      rfl
    rintro τ G7 ⟨rfl, x7, hx7, ht7⟩
    have hra7 := sqT_ex hx3 x7 hra3
    have nd := regs_nodup e1
    refine ⟨fun τ G => τ = [some (V.ref x), some (V.ref a), some (V.ref ra), some (V.int (intOf zd)), u1, u2, none, none] ∧ ∃ pl, Ex x G7 G ∧ G x = some (.ins C dx [("registers", .ref ra), ("size", .int (intOf zd)), ("rows", .ref t), ("end", .int (ds.length : Nat)), ("places", .ref pl)]) ∧ G pl = some (.dK (plcK (strsOf wd))), ?_, ?_⟩
    · walk_at "wp"
      refine ⟨⟨(strsOf wd).map V.str, hra7⟩, ?_⟩
      refine dcw_it (walk_enumA (t := true) (xs := (strsOf wd).map V.str)) (fun D i F => Same G7 F ∧ G7 D = none ∧ F D = some (.dK (plcK ((strsOf wd).take i)))) (fun D hD => ⟨same_new hD, hD, upd_same⟩) (fun D i F _ h => Same.sqT h.1 hra7) ?_ ?_
      · rintro D i y F F' hD hi ⟨f1, nD, hF⟩ ⟨q, y1, y2, rfl, hqq, rfl, hy1, hy2⟩
        cases hy1
        have hy2 : ((strsOf wd).map V.str)[i]? = some y2 := hy2
        rw [List.getElem?_map] at hy2
        obtain ⟨z, hz, rfl⟩ := Option.map_eq_some_iff.mp hy2
        rw [List.length_map] at hi
        walk_at "wp"
        have s3 := f1.trans (same_new (o := .tup [V.int (i : Nat), V.str z]) hqq)
        refine ⟨_, SqT.of upd_same, rfl, _, _, rfl, _, _, rfl, rfl, _, .inr z, rfl, same_new hqq _ _ hF, ?_, same_mut s3 nD, nD, ?_⟩
        · rw [plcK_len, List.length_take, sizeLine_eq]
          omega
        · rw [upd_same, L2.putK_new _ (plcK_none (nodup_not nd hz)), List.take_succ, hz]
          show _ = some (HO.dK (plcK ((strsOf wd).take i ++ [z])))
          rw [plcK_snoc, List.length_take, Nat.min_eq_left (by omega)]
      · rintro D F hD ⟨f1, nD, hF⟩
        rw [List.length_map, List.take_length] at hF
        refine ⟨C, dx, _, f1 _ _ hx7, pc.cls, pc.n5, (by show 4 < 1000; decide), (ex_same f1).trans ex_upd, D, upd_same, ?_⟩
        rw [upd_ne (fun z => by rw [z, f1 _ _ hx7] at hF; cases hF)]
        exact hF
    rintro τ G8 ⟨rfl, pl, x8, hx8, hpl⟩
    have hra8 := sqT_ex hx7 x8 hra7
    have ht8 := sqT_ex hx7 x8 ht7
    have hb : 2 ≤ intOf zd ∧ intOf zd ≤ 3 := by
      have e := e2
      rw [ez] at e
      unfold btw at e
      simpa using e
    obtain ⟨sz, hsz⟩ : ∃ sz : Nat, sz = (intOf zd).toNat := ⟨_, rfl⟩
    have hsz2 : intOf zd = ((sz : Nat) : Int) := by omega
    walk_at "wp"
    refine ⟨pl, _, hpl, trivial, fun od => ?_⟩
    have hne : x ≠ pl := fun z => by
      rw [← z, hx8] at hpl
      cases hpl
    obtain ⟨G9, hG9⟩ : ∃ G9, G9 = upd G8 pl (.frz od (.dK (plcK (strsOf wd)))) := ⟨_, rfl⟩
    have hxf : G9 x = some (.ins C dx [("registers", .ref ra), ("size", .int (intOf zd)), ("rows", .ref t), ("end", .int (ds.length : Nat)), ("places", .ref pl)]) := by
      rw [hG9, upd_ne hne]
      exact hx8
    have hpf : G9 pl = some (.frz od (.dK (plcK (strsOf wd)))) := by
      rw [hG9]
      exact upd_same
    have hraf : SqT K G9 ra ((strsOf wd).map V.str) := by
      rw [hG9]
      exact (off_dK hpl).sqT hra8
    rw [← hG9]
    refine ⟨C, dx, _, hxf, pc.cls, pc.n5, _, rfl, pl, rfl, od, plcK (strsOf wd), hpf, ?_⟩
    refine dcw_it walk_items (fun D i F => Same G9 F ∧ G9 D = none ∧ ∃ kvs : List (Key × V), F D = some (.dK kvs) ∧ kvs.length ≤ i ∧ ∀ (p : Nat) z, p < i → (strsOf wd)[p]? = some z → ∃ (l : Addr) (ds : List Addr), valV kvs (.inr z) = some (V.ref l) ∧ F l = some (.lst (ds.map V.ref)) ∧ ds.length = sz ∧ ∀ (v : Nat) d, ds[v]? = some d → TabAt K F d sz (strsOf wd).length p v)
      (fun D hD => ⟨same_new hD, hD, [], upd_same, Nat.zero_le _, fun p z h => by omega⟩) (fun D i F _ h => h.1 _ _ hpf) ?_ ?_
    · rintro D i y F F' hD hi ⟨f1, nD, kvs, hk1, hk2, hk3⟩ ⟨q, y1, y2, rfl, hqq, rfl, hy1, hy2⟩
      rw [plcK_len] at hi
      have hy1 : Option.map (fun kv => kV kv.1) (plcK (strsOf wd))[i]? = some y1 := hy1
      have hy2 : Option.map Prod.snd (plcK (strsOf wd))[i]? = some y2 := hy2
      obtain ⟨z, hz⟩ : ∃ z, (strsOf wd)[i]? = some z := ⟨_, List.getElem?_eq_getElem hi⟩
      rw [plcK_get, hz] at hy1 hy2
      cases hy1
      cases hy2
      have s3 := f1.trans (same_new (o := .tup [kV (Sum.inr z), V.int (i : Nat)]) hqq)
      have f3 := same_new (o := .tup [kV (Sum.inr z), V.int (i : Nat)]) hqq
      have hq1 : (upd F q (.tup [kV (Sum.inr z), V.int (i : Nat)])) q = some (.tup [kV (Sum.inr z), V.int (i : Nat)]) := upd_same
      generalize upd F q (.tup [kV (Sum.inr z), V.int (i : Nat)]) = F1 at s3 f3 hq1 ⊢
      walk_at "wp"
      refine ⟨_, SqT.of hq1, rfl, _, _, rfl, _, _, rfl, rfl, dx, _, s3 _ _ hxf, rfl, x, strsOf wd, sz, i, rfl, ⟨dx, _, ra, s3 _ _ hxf, rfl, ?_, rfl, rfl, Same.sqT s3 hraf⟩, wl2, by omega, hi, fun L F2 ds2 e hL hl el2 tabs => ?_⟩
      · rw [← hsz2]
        rfl
      · have hkF := e _ _ (f3 _ _ hk1)
        have ofD := off_dK hkF
        have fe := f3.trans e
        refine ⟨kvs, .inr z, rfl, hkF, by rw [sizeLine_eq]; omega, same_mut (s3.trans e) nD, nD, _, upd_same, ?_, fun p z' hp hz' => ?_⟩
        · have := length_putK kvs (Sum.inr z) (V.ref L)
          omega
        · by_cases c : p = i
          · subst c
            rw [hz] at hz'
            cases hz'
            exact ⟨L, by rw [valV_put, if_pos rfl], ds2, ofD.lst hl, el2, fun v d hd => ofD.tab (tabs v d hd)⟩
          · have hpi : p < i := by omega
            obtain ⟨l, ds3, a1, a2, a3, a4⟩ := hk3 p z' hpi hz'
            have hzz : ¬ ((Sum.inr z' : Key) = Sum.inr z) := fun e2 => by
              injection e2 with e2
              subst e2
              exact nodup_ix nd hz hz' hpi
            exact ⟨l, by rw [valV_put, if_neg hzz]; exact a1, ds3, ofD.lst (fe _ _ a2), a3, fun v d hd => ofD.tab ((a4 v d hd).same fe)⟩
    · rintro D F hD ⟨f1, nD, kvs, hk1, hk2, hk3⟩
      have hplF := f1 _ _ hpf
      have hxF := f1 _ _ hxf
      have hDp : D ≠ pl := fun z => by
        rw [z, hpf] at nD
        cases nD
      have ofz := off_frz hplF
      refine ⟨hplF, C, dx, _, (upd_ne hne).trans hxF, pc.cls, pc.n6, (by show 5 < 1000; decide), ?_⟩
      have s10 : Same G8 (upd F pl (.dK (plcK (strsOf wd)))) := fun b o hbo => by
        by_cases c : b = pl
        · subst c
          rw [hpl] at hbo
          cases hbo
          exact upd_same
        · rw [upd_ne c]
          refine f1 _ _ ?_
          rw [hG9, upd_ne c]
          exact hbo
      have ch10 : ChAt K (upd F pl (.dK (plcK (strsOf wd)))) D sz (strsOf wd) := by
        refine ⟨kvs, by rw [upd_ne hDp]; exact hk1, fun p z hz => ?_⟩
        obtain ⟨l, ds2, a1, a2, a3, a4⟩ := hk3 p z (by rw [plcK_len]; exact (List.getElem?_eq_some_iff.mp hz).1) hz
        exact ⟨l, ds2, a1, ofz.lst a2, a3, fun v d hd => ofz.tab (a4 v d hd)⟩
      have hx10 : (upd F pl (.dK (plcK (strsOf wd)))) x = some (.ins C dx [("registers", .ref ra), ("size", .int (intOf zd)), ("rows", .ref t), ("end", .int (ds.length : Nat)), ("places", .ref pl)]) := (upd_ne hne).trans hxF
      generalize upd F pl (.dK (plcK (strsOf wd))) = G10 at s10 ch10 hx10 ⊢
      have x11 : Ex x G3 (upd G10 x (.ins C dx (putF (Str.ofString "changed") (V.ref D) [("registers", .ref ra), ("size", .int (intOf zd)), ("rows", .ref t), ("end", .int (ds.length : Nat)), ("places", .ref pl)]))) := ((x7.trans x8).trans (ex_same s10)).trans ex_upd
      refine kk _ (.ref ra) t pl D ((ex_same g13).trans x11) (by rw [upd_same]; rfl) ?_ (.tup (sqT_ex hx10 ex_upd (Same.sqT s10 ht8)) (dps_ex hx3 x11 _ _ hda3)) ?_ ?_
      · rw [ew]
        exact .tup (sqT_ex hx3 x11 hra3) (dpAll_strs _)
      · rw [upd_ne (Ne.symm hne)]
        exact s10 _ _ hpl
      · rw [← hsz]
        exact ch10.ex hx10 ex_upd
end
end YY

set_option maxRecDepth 100000
set_option maxHeartbeats 4000000
namespace YY
open PySem PySem.Spec PyProof.Rows L2 XX
local macro_rules | `(tactic| walk_at "wp") => `(tactic| simp only [tSeq, tNext, tAsg, tPar, gName, tCB, tCons, tNil, tVar, tC, tOp, tUn, rI, rI0, rU, tLst, tTup, tFor_eq, iRng1, iRng2, iList, iTup, tRet, tRetN, tDrop, tIfS, tTest, tB, tAnd, tOr, tNot, tIf, tAndV, tOrV, tNotV, tCall, tBM, tBM0, rIxL, rIxT, rAppend, tLc_eq, gSub, rSetL, rEq, rNe, rMulS, rIxS, tRevT, gTup, gCons, gNil, wipe, tYes, LcEnd, tDisp, tPairs, tChain, tSl, tPart, tNoPart, rSlT, rSlL, rCatT, rCat, rRep, rIsD, V.ty.injEq, iZipB, tDNewK, tXf, wMA, wAs, rLenK, tLenSetS, rReprE, tVeI, tOst, tErr, tMkO, sFld, tFld, rIsE2, tMakeS, rListStr, tDNotIn, tDGet, rSetD, gSub, iEnumA, rIxD, iStr, rIn, rEqI, rLenI, tIxI, rSetI, rSortedSet, rEqK, tLc2_eq, tMeth, tMethX, StX.tStar, tLock, tLockE, iItems, iKeys,
  cxOf_K, cxOf_noxK, L2.start, List.map_cons, List.map_nil, List.length_cons, List.length_nil, Nat.reduceAdd, Nat.reduceSub, List.replicate_succ, List.replicate_zero, List.replicate, List.cons_append, List.nil_append, List.getElem?_cons_zero, List.getElem?_cons_succ, List.set_cons_zero, List.set_cons_succ, List.append_nil,
  Option.some.injEq, V.int.injEq, V.ref.injEq, V.bl.injEq, V.str.injEq, List.cons.injEq, and_true, true_and, exists_eq_left', exists_eq_left, exists_and_left, exists_and_right, exists_const, bool_ite_true, bool_ite_false, dec_ite, ndec_ite, reduceCtorEq, false_or, or_false, false_and, and_false, decide_eq_true_eq, and_assoc, reduceIte, ite_true, ite_false, Int.zero_add])


abbrev sEq : Stmt := inClass (topS 27) 1
abbrev sLen : Stmt := inClass (topS 27) 2
abbrev sLProgram : Stmt := topS 53
/-! ### a program's data -/
structure PrD where
  ws : List Str
  size : Int
  ds : List PyData
structure PrD.Ok (g : PrD) : Prop where
  regs : regsB (.tuple (g.ws.map PyData.str)) = true
  smw : sm (.tuple (g.ws.map PyData.str)) = true
  size2 : 2 ≤ g.size
  size3 : g.size ≤ 3
  least : 1 ≤ g.ds.length
  most : g.ds.length ≤ 24
  rows : ∀ d ∈ g.ds, rowB g.ws g.size g.ds.length d = true
  sml : ∀ d ∈ g.ds, Sml 2 2000 d
def kindIn (ks : List Str) : PyData → Bool
  | .tuple (.str k :: _) => decide (k ∈ ks)
  | _ => false
def kAt (ks : List Str) (ds : List PyData) (i : Nat) : Bool := match ds[i]? with
  | some d => kindIn ks d
  | none => false
def ProgAt (K : PySem.W.Frag) (C : Addr) (H : Hp) (x : Addr) (g : PrD) : Prop := ∃ (dx wr t plA chA : Addr), H x = some (.ins C dx [("registers", .ref wr), ("size", .int g.size), ("rows", .ref t), ("end", .int (g.ds.length : Nat)), ("places", .ref plA), ("changed", .ref chA)]) ∧ SqT K H wr (g.ws.map V.str) ∧ Dp K H (.ref t) (.tuple g.ds) ∧ H plA = some (.dK (plcK g.ws)) ∧ ChAt K H chA g.size.toNat g.ws
theorem ProgAt.same {K : PySem.W.Frag} {C : Addr} {H G : Hp} {x : Addr} {g : PrD} (e : Same H G) (h : ProgAt K C H x g) : ProgAt K C G x g := by
  obtain ⟨dx, wr, t, plA, chA, h1, h2, h3, h4, h5⟩ := h
  exact ⟨dx, wr, t, plA, chA, e _ _ h1, Same.sqT e h2, dp_same e _ _ h3, e _ _ h4, h5.same e⟩
theorem rowB_str {rs : List Str} {size en : Int} {d : PyData} (h : rowB rs size en d = true) : ∃ k ps, d = .tuple (.str k :: ps) := by
  match d, h with
  | .tuple (.str k :: ps), _ => exact ⟨k, ps, rfl⟩
def kV (ks : List Str) (ds : List PyData) (i : Nat) : Option V := if kAt ks ds i = true then some (.int (i : Nat)) else none
theorem none_back {H G : Hp} {D : Addr} (g : Same H G) (h : G D = none) : H D = none := by
  cases h2 : H D with
  | none => rfl
  | some o =>
    rw [g D o h2] at h
    cases h
section
variable {P : Program} {w : World} {K : PySem.W.Frag} {mg : Str → Option Value} {base : Heap}
/-! ### branches, steering, groups, meets -/
theorem ProgAt.look {C : Addr} {H : Hp} {x : Addr} {g : PrD} (h : ProgAt K C H x g) (m : Str) (e : (m == "registers") = false ∧ (m == "size") = false ∧ (m == "rows") = false ∧ (m == "end") = false ∧ (m == "places") = false ∧ (m == "changed") = false) : ∃ dx fs, H x = some (.ins C dx fs) ∧ fs.lookup m = none := by
  obtain ⟨dx, wr, t, plA, chA, h1, _⟩ := h
  refine ⟨dx, _, h1, ?_⟩
  obtain ⟨e1, e2, e3, e4⟩ := e
  simp only [List.lookup, e1, e2, e3, e4]
/-! ### len -/
def spLen (K : PySem.W.Frag) (C : Addr) : Sp := fun vs H Q _ => ∃ (x : Addr) (g : PrD), vs = [.ref x] ∧ ProgAt K C H x g ∧ Q (.int (g.ds.length : Nat)) H
theorem scLen : FnScope ["self"] ["self"] (defScope sLen) := ⟨rfl, rfl, rfl, by decide +kernel, rfl, by decide +kernel, by decide +kernel⟩
theorem c_len {C : Addr} (D : DefM K C "__len__" "Program.__len__" sLen ["self"]) (T : Bl2 mg) (pc : ProgC K C) : MtC P w K mg base CX0 1 C "__len__" ["self"] (spLen K C) := by
  refine D.ok scLen (fun vs H Q E h => ?_) (fun f cdv A outer s H vs Q E hr h => ?_)
  · obtain ⟨x, g, rfl, _⟩ := h
    rfl
  · obtain ⟨x, g, rfl, ⟨dx, wr, t, plA, chA, hx, hwr, ht, hplA, hchA⟩, k⟩ := h
    have sc := scLen
    refine ⟨_, (pss_one (ps_ret (pe_callB call_len_seq (by rfl) T.n_len (by decide +kernel) (pa_cons (pe_fld (pv 0) rfl) pa_nil)))), ?_⟩
    walk_at "wp"
    cases ht with
    | @tup _ xs _ hs ha =>
      refine ⟨C, dx, _, hx, pc.cls, pc.n3, _, rfl, _, rfl, xs, .inr hs, ?_⟩
      rw [dpAll_len ha]
      exact k
/-! ### is_plain -/
end
end YY

set_option maxRecDepth 100000
set_option maxHeartbeats 4000000
namespace YY
open PySem PySem.Spec PyProof.Rows L2 XX
local macro_rules | `(tactic| walk_at "wp") => `(tactic| simp only [tSeq, tNext, tAsg, tPar, gName, tCB, tCons, tNil, tVar, tC, tOp, tUn, rI, rI0, rU, tLst, tTup, tFor_eq, iRng1, iRng2, iList, iTup, tRet, tRetN, tDrop, tIfS, tTest, tB, tAnd, tOr, tNot, tIf, tAndV, tOrV, tNotV, tCall, tBM, tBM0, rIxL, rIxT, rAppend, tLc_eq, gSub, rSetL, rEq, rNe, rMulS, rIxS, tRevT, gTup, gCons, gNil, wipe, tYes, LcEnd, tDisp, tPairs, tChain, tSl, tPart, tNoPart, rSlT, rSlL, rCatT, rCat, rRep, rIsD, V.ty.injEq, iZipB, tDNewK, tXf, wMA, wAs, rLenK, tLenSetS, rReprE, tVeI, tOst, tErr, tMkO, sFld, tFld, rIsE2, tMakeS, rListStr, tDNotIn, tDGet, rSetD, gSub, iEnumA, rIxD, iStr, rIn, rEqI, rLenI, tIxI, rSetI, rSortedSet, rEqK, tLc2_eq, tMeth, tMethX, StX.tStar, tLock, tLockE, iItems, iKeys,
  cxOf_K, cxOf_noxK, L2.start, List.map_cons, List.map_nil, List.length_cons, List.length_nil, Nat.reduceAdd, Nat.reduceSub, List.replicate_succ, List.replicate_zero, List.replicate, List.cons_append, List.nil_append, List.getElem?_cons_zero, List.getElem?_cons_succ, List.set_cons_zero, List.set_cons_succ, List.append_nil,
  Option.some.injEq, V.int.injEq, V.ref.injEq, V.bl.injEq, V.str.injEq, List.cons.injEq, and_true, true_and, exists_eq_left', exists_eq_left, exists_and_left, exists_and_right, exists_const, bool_ite_true, bool_ite_false, dec_ite, ndec_ite, reduceCtorEq, false_or, or_false, false_and, and_false, decide_eq_true_eq, and_assoc, reduceIte, ite_true, ite_false, Int.zero_add])

structure Bl4 (mg : Str → Option Value) : Prop extends Bl3 mg where
  n_sorted : mg "sorted" = none
/-! ### rows of a kind -/
theorem btw_int {d : PyData} {lo hi : Int} (h : btw d lo hi = true) : ∃ i : Int, d = .int i ∧ lo ≤ i ∧ i ≤ hi := by
  unfold btw at h
  cases d with
  | int i =>
    rw [Bool.and_eq_true, decide_eq_true_eq, decide_eq_true_eq] at h
    exact ⟨i, rfl, h⟩
  | _ => cases h
theorem rowB_parts {rs : List Str} {size en : Int} {k : Str} {ps : List PyData} {ns : List Str} (hf : formOf k = some ns) (h : rowB rs size en (.tuple (.str k :: ps)) = true) : partsB rs size en ps ns = true := by
  have e : rowB rs size en (.tuple (.str k :: ps)) = (match formOf k with
    | some ns => partsB rs size en ps ns
    | none => false) := rfl
  rw [e, hf] at h
  exact h
/-! ### two numbers, ascending, each once -/
/-! ### the ways of a row -/
section
variable {P : Program} {w : World} {K : PySem.W.Frag} {mg : Str → Option Value} {base : Heap}
end
end YY

set_option maxRecDepth 100000
set_option maxHeartbeats 4000000
namespace YY
open PySem PySem.Spec PyProof.Rows L2 XX
local macro_rules | `(tactic| walk_at "wp") => `(tactic| simp only [tSeq, tNext, tAsg, tPar, gName, tCB, tCons, tNil, tVar, tC, tOp, tUn, rI, rI0, rU, tLst, tTup, tFor_eq, iRng1, iRng2, iList, iTup, tRet, tRetN, tDrop, tIfS, tTest, tB, tAnd, tOr, tNot, tIf, tAndV, tOrV, tNotV, tCall, tBM, tBM0, rIxL, rIxT, rAppend, tLc_eq, gSub, rSetL, rEq, rNe, rMulS, rIxS, tRevT, gTup, gCons, gNil, wipe, tYes, LcEnd, tDisp, tPairs, tChain, tSl, tPart, tNoPart, rSlT, rSlL, rCatT, rCat, rRep, rIsD, V.ty.injEq, iZipB, tDNewK, tXf, wMA, wAs, rLenK, tLenSetS, rReprE, tVeI, tOst, tErr, tMkO, sFld, tFld, rIsE2, tMakeS, rListStr, tDNotIn, tDGet, rSetD, gSub, iEnumA, rIxD, iStr, rIn, rEqI, rLenI, tIxI, rSetI, rSortedSet, rEqK, tLc2_eq, tMeth, tMethX, StX.tStar, tLock, tLockE, iItems, iKeys,
  cxOf_K, cxOf_noxK, L2.start, List.map_cons, List.map_nil, List.length_cons, List.length_nil, Nat.reduceAdd, Nat.reduceSub, List.replicate_succ, List.replicate_zero, List.replicate, List.cons_append, List.nil_append, List.getElem?_cons_zero, List.getElem?_cons_succ, List.set_cons_zero, List.set_cons_succ, List.append_nil,
  Option.some.injEq, V.int.injEq, V.ref.injEq, V.bl.injEq, V.str.injEq, List.cons.injEq, and_true, true_and, exists_eq_left', exists_eq_left, exists_and_left, exists_and_right, exists_const, bool_ite_true, bool_ite_false, dec_ite, ndec_ite, reduceCtorEq, false_or, or_false, false_and, and_false, decide_eq_true_eq, and_assoc, reduceIte, ite_true, ite_false, Int.zero_add])

/-! ### programs compared -/
structure IsC (K : PySem.W.Frag) (C : Addr) : Prop where
  at_ : PySem.W.findIn K (.ref C) "__class__" = some (some (.builtin "object.__class__"))
  sp : PySem.W.specialIn K (.builtin "object.__class__") "__get__" = some (some (.builtin "getset_descriptor.__get__"))
  tk : PySem.W.takesIn K (.builtin "object.__class__") = some true
  mro : PySem.W.mroIn K C (.type "object") = some true
  tup : PySem.W.kitOne K (.type "tuple") (.ref C) = some false
def prEq (g h : PrD) : Bool := PyData.eqv (.tuple g.ds) (.tuple h.ds) && (PyData.eqv (.tuple (g.ws.map PyData.str)) (.tuple (h.ws.map PyData.str)) && decide (g.size = h.size))
theorem tyx_tup {K : PySem.W.Frag} {H : Hp} {a : Addr} {xs : List V} (h : SqT K H a xs) : TyX K H (.ref a) (.type "tuple") := by
  rcases h with (h | ⟨o, h⟩) | ⟨o, its, n, h, hc, _⟩
  · exact .base (.tup h)
  · exact .fTuple h
  · exact .kTuple h hc
theorem kit_self (K : PySem.W.Frag) (C : Addr) : PySem.W.kitOne K (.ref C) (.ref C) = some true := by
  unfold PySem.W.kitOne
  rw [if_pos (by simp)]
theorem PrD.Ok.smT {g : PrD} (h : g.Ok) : sm (.tuple g.ds) = true := by
  rw [sm, Bool.and_eq_true]
  exact ⟨decide_eq_true (by have := h.most; omega), sms_of fun d hd => (h.sml d hd).s⟩
theorem PrD.Ok.shT {g : PrD} (h : g.Ok) : SeqAt.shaped (.tuple g.ds) = true := by
  refine sm_shaped h.smT ?_
  have e1 : PyData.depthAll g.ds ≤ 2 := dp_all fun d hd => (h.sml d hd).dp
  simp only [PyData.depth]
  omega
theorem PrD.Ok.shW {g : PrD} (h : g.Ok) : SeqAt.shaped (.tuple (g.ws.map PyData.str)) = true := by
  refine sm_shaped h.smw ?_
  have e2 := depth_strs g.ws
  simp only [PyData.depth]
  omega
section
variable {P : Program} {w : World} {K : PySem.W.Frag} {mg : Str → Option Value} {base : Heap}
def spEqP (K : PySem.W.Frag) (C : Addr) : Sp := fun vs H Q _ => ∃ (x : Addr) (y : V) (g : PrD), vs = [.ref x, y] ∧ ProgAt K C H x g ∧ g.Ok ∧
  ((∃ (z : Addr) (h : PrD), y = .ref z ∧ ProgAt K C H z h ∧ h.Ok ∧ Q (.bl (prEq g h)) H) ∨ (∃ (t : Addr) (xs : List V), y = .ref t ∧ SqT K H t xs ∧ Q (.bl false) H))
theorem scEq : FnScope ["self", "other"] ["self", "other"] (defScope sEq) := ⟨rfl, rfl, rfl, by decide +kernel, rfl, by decide +kernel, by decide +kernel⟩
theorem c_eq {C : Addr} (D : DefM K C "__eq__" "Program.__eq__" sEq ["self", "other"]) (T : Bl2 mg) (pc : ProgC K C) (gP : mg "Program" = some (.ref C)) (ic : IsC K C) : MtC P w K mg base CX0 1 C "__eq__" ["self", "other"] (spEqP K C) := by
  refine D.ok scEq (fun vs H Q E h => ?_) (fun f cdv A outer s H vs Q E hr h => ?_)
  · obtain ⟨x, y, g, rfl, _⟩ := h
    rfl
  · obtain ⟨x, y, g, rfl, ⟨dx, wr, t, plA, chA, hx, hwr, ht, hplA, hchA⟩, hok, k⟩ := h
    have sc := scEq
    refine ⟨_, (pss_one (ps_ret (pe_and (pe_callB call_isi (by rfl) T.n_isinstance (by decide +kernel) (pa_cons (pv 1) (pa_cons (pe_glob (v := .ref C) rfl gP rfl) pa_nil))) (pe_and (pe_cmpR (op_eqD hr.units) (pe_fld (pv 0) rfl) (pe_fld (pv 1) rfl) (nomark _)) (pe_and (pe_cmpR (op_eqD hr.units) (pe_fld (pv 0) rfl) (pe_fld (pv 1) rfl) (nomark _)) (pe_one (pe_cmpR op_eq (pe_fld (pv 0) rfl) (pe_fld (pv 1) rfl) (nomark _)))))))), ?_⟩
    walk_at "wp"
    rcases k with ⟨z, h, rfl, ⟨dz, wr2, t2, _, _, hz, hwr2, ht2, _, _⟩, hok2, k⟩ | ⟨t2, xs, rfl, h2, k⟩
    · have h23 : Dp K H (.ref t) (.tuple g.ds) := ht
      refine ⟨_, _, _, _, true, rfl, .own C, .base (.ins hz pc.cls ic.at_ ic.sp ic.tk ic.mro), kit_self K C, true, rfl, ?_⟩
      rw [if_pos rfl]
      refine ⟨C, dx, _, hx, pc.cls, pc.n3, _, rfl, z, rfl, C, dz, _, hz, pc.cls, pc.n3, _, rfl, _, _, ht, ht2, hok.shT, hok2.shT, _, rfl, ?_⟩
      unfold prEq at k
      refine ite2 (fun c => ?_) fun c => ?_
      · rw [c, Bool.true_and] at k
        refine ⟨C, dx, _, hx, pc.cls, pc.n1, _, rfl, z, rfl, C, dz, _, hz, pc.cls, pc.n1, _, rfl, ?_⟩
        refine ⟨_, _, .tup hwr (dpAll_strs _), .tup hwr2 (dpAll_strs _), hok.shW, hok2.shW, _, rfl, ?_⟩
        refine ite2 (fun c => ?_) fun c => ?_
        · rw [c, Bool.true_and] at k
          refine ⟨C, dx, _, hx, pc.cls, pc.n2, _, rfl, z, rfl, C, dz, _, hz, pc.cls, pc.n2, _, rfl, rfl, ?_⟩
          rw [show decide (V.int g.size = V.int h.size) = decide (g.size = h.size) by simp]
          exact k
        · rw [Bool.eq_false_iff.mpr c, Bool.false_and] at k
          exact k
      · rw [Bool.eq_false_iff.mpr c, Bool.false_and] at k
        exact k
    · refine ⟨_, _, _, _, false, rfl, .own C, tyx_tup h2, ic.tup, false, rfl, ?_⟩
      rw [if_neg Bool.false_ne_true]
      exact k
end
end YY

set_option maxRecDepth 100000
set_option maxHeartbeats 4000000
namespace YY
open PySem PySem.Spec PyProof.Rows L2 XX
local macro_rules | `(tactic| walk_at "wp") => `(tactic| simp only [tSeq, tNext, tAsg, tPar, gName, tCB, tCons, tNil, tVar, tC, tOp, tUn, rI, rI0, rU, tLst, tTup, tFor_eq, iRng1, iRng2, iList, iTup, tRet, tRetN, tDrop, tIfS, tTest, tB, tAnd, tOr, tNot, tIf, tAndV, tOrV, tNotV, tCall, tBM, tBM0, rIxL, rIxT, rAppend, tLc_eq, gSub, rSetL, rEq, rNe, rMulS, rIxS, tRevT, gTup, gCons, gNil, wipe, tYes, LcEnd, tDisp, tPairs, tChain, tSl, tPart, tNoPart, rSlT, rSlL, rCatT, rCat, rRep, rIsD, V.ty.injEq, iZipB, tDNewK, tXf, wMA, wAs, rLenK, tLenSetS, rReprE, tVeI, tOst, tErr, tMkO, sFld, tFld, rIsE2, tMakeS, rListStr, tDNotIn, tDGet, rSetD, gSub, iEnumA, rIxD, iStr, rIn, rEqI, rLenI, tIxI, rSetI, rSortedSet, rEqK, tLc2_eq, tMeth, tMethX, StX.tStar, tLock, tLockE, iItems, iKeys,
  cxOf_K, cxOf_noxK, L2.start, List.map_cons, List.map_nil, List.length_cons, List.length_nil, Nat.reduceAdd, Nat.reduceSub, List.replicate_succ, List.replicate_zero, List.replicate, List.cons_append, List.nil_append, List.getElem?_cons_zero, List.getElem?_cons_succ, List.set_cons_zero, List.set_cons_succ, List.append_nil,
  Option.some.injEq, V.int.injEq, V.ref.injEq, V.bl.injEq, V.str.injEq, List.cons.injEq, and_true, true_and, exists_eq_left', exists_eq_left, exists_and_left, exists_and_right, exists_const, bool_ite_true, bool_ite_false, dec_ite, ndec_ite, reduceCtorEq, false_or, or_false, false_and, and_false, decide_eq_true_eq, and_assoc, reduceIte, ite_true, ite_false, Int.zero_add])

theorem firstBad_ok {ws : List Str} {size : Int} {ds : List PyData} (h : ∀ d ∈ ds, rowB ws size ds.length d = true) : firstBad ws size ds = none :=
  find_none fun j d hd => by rw [h d (List.mem_of_getElem? hd)]; rfl
theorem strsOf_map (ws : List Str) : strsOf (.tuple (ws.map PyData.str)) = ws := by
  show (ws.map PyData.str).filterMap _ = ws
  induction ws with
  | nil => rfl
  | cons w ws ih =>
    rw [List.map_cons, List.filterMap_cons]
    show w :: _ = _
    rw [ih]
theorem rowsOk_of {rd : PyData} {es : List PyData} (hi : itemsOf rd = some es) (h1 : 1 ≤ es.length) (h2 : es.length ≤ 24) : rowsOk rd = true := by
  unfold rowsOk
  rw [hi]
  show (decide (1 ≤ es.length) && decide (es.length ≤ 24)) = true
  rw [decide_eq_true h1, decide_eq_true h2]
  rfl
theorem prog_of {K : PySem.W.Frag} {C x dx t plA chA : Addr} {G : Hp} {r : V} {ws : List Str} {size : Int} {es : List PyData} (hx : G x = some (.ins C dx [("registers", r), ("size", .int size), ("rows", .ref t), ("end", .int (es.length : Nat)), ("places", .ref plA), ("changed", .ref chA)]))
    (hr : Dp K G r (.tuple (ws.map PyData.str))) (ht : Dp K G (.ref t) (.tuple es)) (h4 : G plA = some (.dK (plcK ws))) (h5 : ChAt K G chA size.toNat ws) : ProgAt K C G x ⟨ws, size, es⟩ := by
  obtain ⟨wr, rfl, hw⟩ := dp_strs hr
  exact ⟨dx, wr, t, plA, chA, hx, hw, ht, h4, h5⟩
section
variable {kws : List (Str × V)} {P : Program} {w : World} {K : PySem.W.Frag} {mg : Str → Option Value} {base : Heap}
/-- making a program of good rows -/
theorem spProg_good {cR cN cW cB x C dx : Addr} {H : Hp} {rv wv : V} {rd : PyData} {g : PrD} {Q : VK} {E : XK} (hx : H x = some (.ins C dx [])) (pc : ProgC K C) (hr : Dp K H rv rd) (hrs : sm rd = true) (hi : itemsOf rd = some g.ds)
    (hw : Dp K H wv (.tuple (g.ws.map PyData.str))) (hok : g.Ok) (k : ∀ G, Ex x H G → ProgAt K C G x g → Q .non G) : spProg K C cR cN cW cB [.ref x, rv, wv, .int g.size] H Q E := by
  have b23 : btw (.int g.size) 2 3 = true := by
    show (decide (2 ≤ g.size) && decide (g.size ≤ 3)) = true
    rw [decide_eq_true hok.size2, decide_eq_true hok.size3]
    rfl
  have nb := firstBad_ok (ds := g.ds) (ws := g.ws) (size := g.size) hok.rows
  refine ⟨x, dx, rv, wv, .int g.size, rd, _, .int g.size, rfl, hx, .inl hr, fun _ => hrs, hw, hok.smw, .int _, fun e => ?_, fun _ e => ?_, fun _ _ e => ?_, fun _ _ ds hi' _ => ⟨fun i e => ?_, fun _ G r t plA chA ex hG hrr ht h4 h5 => ?_⟩⟩
  · rw [hok.regs] at e
    cases e
  · rw [b23] at e
    cases e
  · rw [rowsOk_of hi hok.least hok.most] at e
    cases e
  · rw [hi] at hi'
    cases hi'
    rw [strsOf_map] at e
    have e' : firstBad g.ws g.size g.ds = some i := e
    rw [nb] at e'
    cases e'
  · rw [hi] at hi'
    cases hi'
    rw [strsOf_map] at h4 h5
    exact k G ex (prog_of hG hrr ht h4 h5)
end
/-! ### the plan's program -/
def rdat (r : RowD) : PyData := .tuple (r.vals.map vd)
def prD (pl : PlanD) : PrD := ⟨pl.words, pl.size, pl.rows.map rdat⟩
theorem word_B {z : Str} (h : IsWord z) : wordS z = true := by
  unfold wordS
  rw [Bool.and_eq_true, Bool.and_eq_true, decide_eq_true_eq, decide_eq_true_eq]
  exact ⟨⟨h.1, h.2.1⟩, List.all_eq_true.mpr fun c hc => decide_eq_true (h.2.2 c hc)⟩
theorem btw_of {i lo hi : Int} (h0 : lo ≤ i) (h1 : i ≤ hi) : btw (.int i) lo hi = true := by
  show (decide (lo ≤ i) && decide (i ≤ hi)) = true
  rw [decide_eq_true h0, decide_eq_true h1]
  rfl
theorem part_p {rs : List Str} {size en : Int} {z : Str} (h : z ∈ rs) : partB rs size en (.str z) "place" = true := decide_eq_true h
theorem part_v {rs : List Str} {size en i : Int} (h0 : 0 ≤ i) (h1 : i < size) : partB rs size en (.int i) "value" = true := by
  unfold partB
  rw [if_neg (by decide +kernel), if_pos rfl]
  exact btw_of h0 (by omega)
theorem part_t {rs : List Str} {size en i : Int} (h0 : 0 ≤ i) (h1 : i ≤ en) : partB rs size en (.int i) "to" = true := by
  unfold partB
  rw [if_neg (by decide +kernel), if_neg (by decide +kernel), if_pos rfl]
  exact btw_of h0 h1
theorem part_a {rs : List Str} {size en : Int} {d : PyData} (h : anchorB en d = true) : partB rs size en d "anchor" = true := by
  unfold partB
  rw [if_neg (by decide +kernel), if_neg (by decide +kernel), if_neg (by decide +kernel), if_pos rfl]
  exact h
theorem part_w {rs : List Str} {size en : Int} {z : Str} (h : wordS z = true) : partB rs size en (.str z) "word" = true := by
  unfold partB
  rw [if_neg (by decide +kernel), if_neg (by decide +kernel), if_neg (by decide +kernel), if_neg (by decide +kernel)]
  exact h
theorem rowB_of {rs : List Str} {size en : Int} {k : Str} {ps : List PyData} {ns : List Str} (hf : formOf k = some ns) (h : partsB rs size en ps ns = true) : rowB rs size en (.tuple (.str k :: ps)) = true := by
  show (match formOf k with
    | some ns => partsB rs size en ps ns
    | none => false) = true
  rw [hf]
  exact h
theorem parts_cons {rs : List Str} {size en : Int} {p : PyData} {ps : List PyData} {n : Str} {ns : List Str} (h : partB rs size en p n = true) (t : partsB rs size en ps ns = true) : partsB rs size en (p :: ps) (n :: ns) = true := by
  rw [partsB, h, t]
  rfl
theorem row_good {r : RowD} {ws : List Str} {size many : Int} (h : r.Ok ws size many) : rowB ws size many (rdat r) = true := by
  cases r with
  | set w v =>
    obtain ⟨a, b, c⟩ := h
    exact rowB_of (ns := ["place", "value"]) (by decide +kernel) (parts_cons (part_p a) (parts_cons (part_v b c) rfl))
  | copy w o => exact rowB_of (ns := ["place", "place"]) (by decide +kernel) (parts_cons (part_p h.1) (parts_cons (part_p h.2) rfl))
  | take w => exact rowB_of (ns := ["place"]) (by decide +kernel) (parts_cons (part_p h) rfl)
  | br w v t j =>
    obtain ⟨a, ⟨b, c⟩, ⟨d, e⟩, f, g⟩ := h
    exact rowB_of (ns := ["place", "value", "to", "to"]) (by decide +kernel) (parts_cons (part_p a) (parts_cons (part_v b c) (parts_cons (part_t d e) (parts_cons (part_t f g) rfl))))
  | go t => exact rowB_of (ns := ["to"]) (by decide +kernel) (parts_cons (part_t h.1 h.2) rfl)
  | group g a =>
    obtain ⟨b, e⟩ := h
    refine rowB_of (ns := ["word", "anchor"]) (by decide +kernel) (parts_cons (part_w ?_) (parts_cons (part_a ?_) rfl))
    · rcases b with rfl | rfl
      · decide +kernel
      · decide +kernel
    · cases a with
      | none => rfl
      | some i =>
        have e2 := e i rfl
        exact btw_of e2.1 (by omega)
  | meet m =>
    refine rowB_of (ns := ["word"]) (by decide +kernel) (parts_cons (part_w ?_) rfl)
    rcases h with rfl | rfl
    · decide +kernel
    · decide +kernel
  | any w v o =>
    obtain ⟨a, ⟨b, c⟩, e⟩ := h
    exact rowB_of (ns := ["place", "value", "place"]) (by decide +kernel) (parts_cons (part_p a) (parts_cons (part_v b c) (parts_cons (part_p e) rfl)))
  | all w v o =>
    obtain ⟨a, ⟨b, c⟩, e⟩ := h
    exact rowB_of (ns := ["place", "value", "place"]) (by decide +kernel) (parts_cons (part_p a) (parts_cons (part_v b c) (parts_cons (part_p e) rfl)))
  | same w o => exact rowB_of (ns := ["place", "place"]) (by decide +kernel) (parts_cons (part_p h.1) (parts_cons (part_p h.2) rfl))
  | fin => exact rowB_of (ns := []) (by decide +kernel) rfl
theorem words_regs {ws : List Str} (h : WordsOk ws) : regsB (.tuple (ws.map PyData.str)) = true := by
  match ws, h with
  | [], h => exact absurd h.least (by decide)
  | [a], h => exact word_B (h.all a (List.mem_cons_self ..))
  | [a, b], h =>
    show (wordS a && wordS b && !(a == b)) = true
    rw [word_B (h.all a (List.mem_cons_self ..)), word_B (h.all b (List.mem_cons_of_mem _ (List.mem_cons_self ..)))]
    have nd := h.nd
    have e : (a == b) = false := beq_false_of_ne fun z => by
      rw [z] at nd
      simp at nd
    rw [e]
    rfl
  | _ :: _ :: _ :: _, h => exact absurd h.most (by simp)
theorem plan_ok {pl : PlanD} {top : Int} (h : pl.Ok top) (ht : top ≤ 24) : (prD pl).Ok := by
  have hl : ((pl.rows.map rdat).length : Int) = (pl.rows.length : Int) := by rw [List.length_map]
  have hm := h.most
  have hle := h.least
  refine ⟨words_regs h.words, ?_, h.size2, h.size3, ?_, ?_, fun d hd => ?_, fun d hd => ?_⟩
  · rw [sm, Bool.and_eq_true]
    refine ⟨decide_eq_true ?_, sms_of fun d hd => ?_⟩
    · have := h.words.most
      show (pl.words.map PyData.str).length ≤ 1000
      rw [List.length_map]
      omega
    · obtain ⟨z, hz, rfl⟩ := List.mem_map.mp hd
      exact (word_sml (h.words.all z hz)).s
  · show 1 ≤ (pl.rows.map rdat).length
    omega
  · show (pl.rows.map rdat).length ≤ 24
    omega
  · obtain ⟨r, hr, rfl⟩ := List.mem_map.mp hd
    show rowB pl.words pl.size ((pl.rows.map rdat).length : Nat) (rdat r) = true
    rw [hl]
    exact row_good (h.rows r hr)
  · obtain ⟨r, hr, rfl⟩ := List.mem_map.mp hd
    exact row_all h.words.all h.size3 (by omega) (h.rows r hr)
theorem rows_dat {K : PySem.W.Frag} {H : Hp} : ∀ {as : List V} {rs : List RowD}, RowsAt K H as rs → DpAll K H as (rs.map rdat)
  | _, _, .nil => .nil
  | _, _, .cons h t => .cons (.tup h (row_dps _)) (rows_dat t)
section
variable {kws : List (Str × V)} {P : Program} {w : World} {K : PySem.W.Frag} {mg : Str → Option Value} {base : Heap}
/-! ### _law_program -/
def spLProgram (K : PySem.W.Frag) (C : Addr) : Sp := fun vs H Q _ => ∃ (d : Addr) (pl : PlanD) (top : Int), vs = [.ref d] ∧ PlanAt K H d pl ∧ pl.Ok top ∧ top ≤ 24 ∧ ∀ y G, Same H G → H y = none → ProgAt K C G y (prD pl) → Q (.ref y) G
theorem scLProgram : FnScope ["plan"] ["plan"] (defScope sLProgram) := ⟨rfl, rfl, rfl, by decide +kernel, rfl, by decide +kernel, by decide +kernel⟩
theorem c_lProgram {C f : Addr} {fd : FuncData} {cR cN cW cB : Addr} (D : Def K mg "_law_program" sLProgram ["plan"]) (gP : mg "Program" = some (.ref C)) (M : Mk K C f) (pc : ProgC K C)
    (hb : KBn K fd ["self", "rows", "registers", "values"] 2 ["registers", "values"] gCat gCat) (F : FnOk P w K mg base (L2.CX P w) 5 f fd ["self", "rows", "registers", "values"] (spProg K C cR cN cW cB)) : FnC P w K mg base CX0 7 "_law_program" ["plan"] (spLProgram K C) := by
  refine D.ok scLProgram (fun vs H Q E h => ?_) (fun f' cdv A outer s H vs Q E hr h => ?_)
  · obtain ⟨d, pl, top, rfl, _⟩ := h
    rfl
  · obtain ⟨d, pl, top, rfl, ⟨ra, wa, as, hd, hra, hrows, hwa⟩, ok, ht, k⟩ := h
    have sc := scLProgram
    have hu := hu_of hr
    refine ⟨_, (pss_one (ps_ret (pe_makeS (E := fun _ => E0) (n := 1) M F hr rfl gP hb (fun σ => passLAt σ) (pa_cons (pe_dget hu (pv 0) pe_str (fun _ _ => rfl)) pa_nil) (pk_cons (pe_dget hu (pv 0) pe_str (fun _ _ => rfl)) (pk_cons (pe_dget hu (pv 0) pe_str (fun _ _ => rfl)) pk_nil))))), ?_⟩
    walk_at "wp"
    refine ⟨_, .inl ⟨planKV ra wa pl.size, .inr "rows", .inl hd, rfl, rfl⟩, _, .inl ⟨planKV ra wa pl.size, .inr "words", .inl hd, rfl, rfl⟩, _, .inl ⟨planKV ra wa pl.size, .inr "size", .inl hd, rfl, rfl⟩, fun y dy hy hdy hne => ?_⟩
    have s0 : Same H (upd (upd H dy (.own y)) y (.ins C dy [])) := same_mut (same_new hdy) hy
    have okp := plan_ok ok ht
    refine spProg_good (g := prD pl) upd_same pc (.tup (Same.sqT s0 hra) (dps_same s0 _ _ (rows_dat hrows))) okp.smT rfl (.tup (Same.sqT s0 hwa) (dpAll_strs _)) okp fun G ex hp => ⟨rfl, k y G (fun b o hbo => ?_) hy hp⟩
    refine ex b o ?_ (s0 b o hbo)
    intro hbx
    rw [hbx, hy] at hbo
    cases hbo
end
end YY

set_option maxRecDepth 100000
set_option maxHeartbeats 4000000
namespace YY
open PySem PySem.Spec PyProof.Rows L2 XX
local macro_rules | `(tactic| walk_at "wp") => `(tactic| simp only [tSeq, tNext, tAsg, tPar, gName, tCB, tCons, tNil, tVar, tC, tOp, tUn, rI, rI0, rU, tLst, tTup, tFor_eq, iRng1, iRng2, iList, iTup, tRet, tRetN, tDrop, tIfS, tTest, tB, tAnd, tOr, tNot, tIf, tAndV, tOrV, tNotV, tCall, tBM, tBM0, rIxL, rIxT, rAppend, tLc_eq, gSub, rSetL, rEq, rNe, rMulS, rIxS, tRevT, gTup, gCons, gNil, wipe, tYes, LcEnd, tDisp, tPairs, tChain, tSl, tPart, tNoPart, rSlT, rSlL, rCatT, rCat, rRep, rIsD, V.ty.injEq, iZipB, tDNewK, tXf, wMA, wAs, rLenK, tLenSetS, rReprE, tVeI, tOst, tErr, tMkO, sFld, tFld, rIsE2, tMakeS, rListStr, tDNotIn, tDIn, tDGet, rSetD, gSub, iEnumA, rIxD, iStr, rIn, rEqI, rLenI, tIxI, rSetI, rSortedSet, rEqK, rEqV, tCallS, tDc_eq, tLc2_eq, tMeth, tMethX, StX.tStar, tLock, tLockE, iItems, iKeys,
  cxOf_K, cxOf_noxK, L2.start, List.map_cons, List.map_nil, List.length_cons, List.length_nil, Nat.reduceAdd, Nat.reduceSub, List.replicate_succ, List.replicate_zero, List.replicate, List.cons_append, List.nil_append, List.getElem?_cons_zero, List.getElem?_cons_succ, List.set_cons_zero, List.set_cons_succ, List.append_nil,
  Option.some.injEq, V.int.injEq, V.ref.injEq, V.bl.injEq, V.str.injEq, List.cons.injEq, and_true, true_and, exists_eq_left', exists_eq_left, exists_and_left, exists_and_right, exists_const, bool_ite_true, bool_ite_false, dec_ite, ndec_ite, reduceCtorEq, false_or, or_false, false_and, and_false, decide_eq_true_eq, and_assoc, reduceIte, ite_true, ite_false, Int.zero_add])

abbrev sAskP : Stmt := topS 29
/-! ### no program -/
def NoProg (K : PySem.W.Frag) (C : Addr) (H : Hp) (v : V) : Prop := ∃ t, TyX K H v t ∧ PySem.W.kitOne K t (.ref C) = some false
def raisesV (cls : Addr) (v : V) (H : Hp) (E : XK) : Prop := ∀ G d, Same H G → G d = none → E (.ref cls) (some d) (upd G d (.xd [("value", v)]))
theorem raisesV.same {cls : Addr} {v : V} {H G : Hp} {E : XK} (e : Same H G) (h : raisesV cls v H E) : raisesV cls v G E := fun F d s n => h F d (e.trans s) n
section
variable {P : Program} {w : World} {K : PySem.W.Frag} {mg : Str → Option Value} {base : Heap}
def spAskP (K : PySem.W.Frag) (C cP : Addr) : Sp := fun vs H Q E => ∃ v, vs = [v] ∧ ((∃ x g, v = .ref x ∧ ProgAt K C H x g ∧ Q .non H) ∨ (NoProg K C H v ∧ raisesV cP v H E))
theorem scAskP : FnScope ["program"] ["program"] (defScope sAskP) := ⟨rfl, rfl, rfl, by decide +kernel, rfl, by decide +kernel, by decide +kernel⟩
theorem c_askP {C fI : Addr} {fdI : FuncData} {cP : Addr} (D : Def K mg "ask_program" sAskP ["program"]) (T : Bl4 mg) (pc : ProgC K C) (gP : mg "Program" = some (.ref C)) (ic : IsC K C) (EP : ErrC K mg "BadProgram" cP fI)
    (cI : FnOk P w K mg base CX0 1 fI fdI ["self", "value"] (spErr K)) (hbI : Binds K fdI ["self", "value"] []) : FnC P w K mg base (L2.CX P w) 3 "ask_program" ["program"] (spAskP K C cP) := by
  refine D.okX scAskP (fun vs H Q E h => ?_) (fun f' cdv A outer s H vs Q E hr h => ?_)
  · obtain ⟨v, rfl, _⟩ := h
    rfl
  · obtain ⟨v, rfl, h⟩ := h
    have sc := scAskP
    refine ⟨_, (pss_one (ps_if (pt_not (pt_val (pe_callB call_isi (by rfl) T.n_isinstance (by decide +kernel) (pa_cons (pv 0) (pa_cons (pe_glob (v := .ref C) rfl gP rfl) pa_nil))))) (pss_one (ps_err EP cI hbI hr rfl (takes_of rfl rfl rfl rfl) (pv 0) rfl)) pss_nil)), ?_⟩
    walk_at "wp"
    rcases h with ⟨x, g, rfl, ⟨dx, wr, t, _, _, hx, _⟩, q⟩ | ⟨⟨t, ht, hk⟩, he⟩
    · exact ⟨_, _, _, _, true, rfl, .own C, .base (.ins hx pc.cls ic.at_ ic.sp ic.tk ic.mro), kit_self K C, true, rfl, q⟩
    · exact ⟨_, _, _, _, false, rfl, .own C, ht, hk, false, rfl, err_of2 EP.oex EP.no fun d hd => he H d (Same.refl H) hd⟩
end
end YY

set_option maxRecDepth 100000
set_option maxHeartbeats 4000000
namespace YY
open PySem PySem.Spec PyProof.Rows L2 XX
local macro_rules | `(tactic| walk_at "wp") => `(tactic| simp only [tPar3, rIndex, tAug, rExt2, tSeq, tNext, tAsg, tPar, gName, tCB, tCons, tNil, tVar, tC, tOp, tUn, rI, rI0, rU, tLst, tTup, tFor_eq, iRng1, iRng2, iList, iTup, tRet, tRetN, tDrop, tIfS, tTest, tB, tAnd, tOr, tNot, tIf, tAndV, tOrV, tNotV, tCall, tBM, tBM0, rIxL, rIxT, rAppend, tLc_eq, gSub, rSetL, rEq, rNe, rMulS, rIxS, tRevT, gTup, gCons, gNil, wipe, tYes, LcEnd, tDisp, tPairs, tChain, tSl, tPart, tNoPart, rSlT, rSlL, rCatT, rCat, rRep, rIsD, V.ty.injEq, iZipB, tDNewK, tXf, wMA, wAs, rLenK, tLenSetS, rReprE, tVeI, tOst, tErr, tMkO, sFld, tFld, rIsE2, tMakeS, rListStr, tDNotIn, tDIn, tDGet, rSetD, gSub, iEnumA, rIxD, iStr, rIn, rEqI, rLenI, tIxI, rSetI, rSortedSet, rEqK, rEqV, tCallS, tDc_eq, tLc2_eq, tMeth, tMethX, StX.tStar, tLock, tLockE, iItems, iKeys,
  cxOf_K, cxOf_noxK, L2.start, List.map_cons, List.map_nil, List.length_cons, List.length_nil, Nat.reduceAdd, Nat.reduceSub, List.replicate_succ, List.replicate_zero, List.replicate, List.cons_append, List.nil_append, List.getElem?_cons_zero, List.getElem?_cons_succ, List.set_cons_zero, List.set_cons_succ, List.append_nil,
  Option.some.injEq, V.int.injEq, V.ref.injEq, V.bl.injEq, V.str.injEq, List.cons.injEq, and_true, true_and, exists_eq_left', exists_eq_left, exists_and_left, exists_and_right, exists_const, bool_ite_true, bool_ite_false, dec_ite, ndec_ite, reduceCtorEq, false_or, or_false, false_and, and_false, decide_eq_true_eq, and_assoc, reduceIte, ite_true, ite_false, Int.zero_add])

abbrev sAreV : Stmt := topS 14
abbrev sWoZ : Stmt := topS 15
def valsB (ds : List PyData) : Bool := decide (ds.length ≤ 60) && ds.all fun d => btw d 0 2
section
variable {P : Program} {w : World} {K : PySem.W.Frag} {mg : Str → Option Value} {base : Heap}
/-! ### are_values -/
def spAreV (K : PySem.W.Frag) : Sp := fun vs H Q _ => ∃ (t : Bool) (a : Addr) (xs : List V) (ds : List PyData), vs = [.ref a] ∧ SqA t K H a xs ∧ DpAll K H xs ds ∧ xs.length ≤ 900 ∧ ∀ G, Same H G → Q (.bl (valsB ds)) G
theorem scAreV : FnScope ["values", "value"] ["values"] (defScope sAreV) := ⟨rfl, rfl, rfl, by decide +kernel, rfl, by decide +kernel, by decide +kernel⟩
theorem c_areV {tk : Tok} (D : Def K mg "are_values" sAreV ["values"]) (T : Bl2 mg) (gM : mg "MOST_VALUES" = some (.int 60 tk)) (cB : FnC P w K mg base CX0 2 "is_between" ["value", "least", "most"] (spIsBetween K)) : FnC P w K mg base CX0 3 "are_values" ["values"] (spAreV K) := by
  refine D.ok scAreV (fun vs H Q E h => ?_) (fun f cdv A outer s H vs Q E hr h => ?_)
  · obtain ⟨t, a, xs, ds, rfl, _⟩ := h
    rfl
  · obtain ⟨t, a, xs, ds, rfl, hx, hd, hl, k⟩ := h
    have sc := scAreV
    have el := dpAll_len hd
    cases t with
    | false =>
      refine ⟨_, (pss_one (ps_ret (pe_and (pe_cmpR op_le (pe_callB call_len_seq (by rfl) T.n_len (by decide +kernel) (pa_cons (pv 0) pa_nil)) (pe_glob (v := .int 60) rfl gM ⟨_, rfl⟩) (nomark _)) (pe_one (pe_callB (cr_all rfl) (by rfl) T.n_all (by decide +kernel) (pa_cons (pe_lc (own := [("value", 1)]) (g := gName 1) (tt := tYes) rfl sc.nd (pi_list (pv 0)) (blkOk_by (N := ["values", "value"]) (sc := defScope sAreV) (by decide +kernel)) (fun _ _ _ _ _ => (pg_name (i := 1) sc.nd rfl (Or.inl rfl))) (fun _ _ _ _ _ => pts_nil) (fun _ _ _ _ _ => (pe_c cB hr rfl (pa_cons (pv 1) (pa_cons pe_int (pa_cons pe_int pa_nil)))))) pa_nil)))))), ?_⟩
      walk_at "wp"
      have hq : SqL K H a xs := hx
      refine ⟨xs, .inl hq, ite2 (fun c => ⟨⟨xs, hq⟩, ?_⟩) fun c => ?_⟩
      · refine lcw_gen walk_list (fun i => (ds[i]?).map fun d => V.bl (btw d 0 2)) (by omega) (fun H' e => Same.sqL e hq) ?_ ?_
        · rintro i x G1 G2 Nx Q' hi hG ⟨rfl, hx⟩ q _
          walk_at "wp"
          obtain ⟨e, he, hde⟩ := dpAll_get hd hx
          exact ⟨x, e, 0, 2, rfl, dp_same hG _ _ hde, q _ _ (by rw [he]; rfl) (Same.refl _)⟩
        · rintro D G hG hD hL
          have e2 : (List.range xs.length).filterMap (fun i => (ds[i]?).map fun d => V.bl (btw d 0 2)) = (ds.map fun d => btw d 0 2).map V.bl := by
            rw [el, List.map_map]
            exact filterMap_get ds _
          rw [e2] at hL
          refine ⟨D, _, rfl, SqL.of hL, ?_⟩
          have e3 : valsB ds = (ds.map fun d => btw d 0 2).all id := by
            unfold valsB
            rw [decide_eq_true (by omega), Bool.true_and, List.all_map]
            rfl
          rw [← e3]
          exact k G hG
      · have e3 : valsB ds = false := by
          unfold valsB
          rw [decide_eq_false (by omega), Bool.false_and]
        rw [← e3]
        exact k H (Same.refl H)
    | true =>
      refine ⟨_, (pss_one (ps_ret (pe_and (pe_cmpR op_le (pe_callB call_len_seq (by rfl) T.n_len (by decide +kernel) (pa_cons (pv 0) pa_nil)) (pe_glob (v := .int 60) rfl gM ⟨_, rfl⟩) (nomark _)) (pe_one (pe_callB (cr_all rfl) (by rfl) T.n_all (by decide +kernel) (pa_cons (pe_lc (own := [("value", 1)]) (g := gName 1) (tt := tYes) rfl sc.nd (pi_tup (pv 0)) (blkOk_by (N := ["values", "value"]) (sc := defScope sAreV) (by decide +kernel)) (fun _ _ _ _ _ => (pg_name (i := 1) sc.nd rfl (Or.inl rfl))) (fun _ _ _ _ _ => pts_nil) (fun _ _ _ _ _ => (pe_c cB hr rfl (pa_cons (pv 1) (pa_cons pe_int (pa_cons pe_int pa_nil)))))) pa_nil)))))), ?_⟩
      walk_at "wp"
      have hq : SqT K H a xs := hx
      refine ⟨xs, .inr hq, ite2 (fun c => ⟨⟨xs, hq⟩, ?_⟩) fun c => ?_⟩
      · refine lcw_gen walk_tup (fun i => (ds[i]?).map fun d => V.bl (btw d 0 2)) (by omega) (fun H' e => Same.sqT e hq) ?_ ?_
        · rintro i x G1 G2 Nx Q' hi hG ⟨rfl, hx⟩ q _
          walk_at "wp"
          obtain ⟨e, he, hde⟩ := dpAll_get hd hx
          exact ⟨x, e, 0, 2, rfl, dp_same hG _ _ hde, q _ _ (by rw [he]; rfl) (Same.refl _)⟩
        · rintro D G hG hD hL
          have e2 : (List.range xs.length).filterMap (fun i => (ds[i]?).map fun d => V.bl (btw d 0 2)) = (ds.map fun d => btw d 0 2).map V.bl := by
            rw [el, List.map_map]
            exact filterMap_get ds _
          rw [e2] at hL
          refine ⟨D, _, rfl, SqL.of hL, ?_⟩
          have e3 : valsB ds = (ds.map fun d => btw d 0 2).all id := by
            unfold valsB
            rw [decide_eq_true (by omega), Bool.true_and, List.all_map]
            rfl
          rw [← e3]
          exact k G hG
      · have e3 : valsB ds = false := by
          unfold valsB
          rw [decide_eq_false (by omega), Bool.false_and]
        rw [← e3]
        exact k H (Same.refl H)
end
end YY

set_option maxRecDepth 100000
set_option maxHeartbeats 4000000
namespace YY
open PySem PySem.Spec PyProof.Rows L2 XX
local macro_rules | `(tactic| walk_at "wp") => `(tactic| simp only [tPar3, rIndex, tAug, rExt2, tSeq, tNext, tAsg, tPar, gName, tCB, tCons, tNil, tVar, tC, tOp, tUn, rI, rI0, rU, tLst, tTup, tFor_eq, iRng1, iRng2, iList, iTup, tRet, tRetN, tDrop, tIfS, tTest, tB, tAnd, tOr, tNot, tIf, tAndV, tOrV, tNotV, tCall, tBM, tBM0, rIxL, rIxT, rAppend, tLc_eq, gSub, rSetL, rEq, rNe, rMulS, rIxS, tRevT, gTup, gCons, gNil, wipe, tYes, LcEnd, tDisp, tPairs, tChain, tSl, tPart, tNoPart, rSlT, rSlL, rCatT, rCat, rRep, rIsD, V.ty.injEq, iZipB, tDNewK, tXf, wMA, wAs, rLenK, tLenSetS, rReprE, tVeI, tOst, tErr, tMkO, sFld, tFld, rIsE2, tMakeS, rListStr, tDNotIn, tDIn, tDGet, rSetD, gSub, iEnumA, rIxD, iStr, rIn, rEqI, rLenI, tIxI, rSetI, rSortedSet, rEqK, rEqV, tCallS, tDc_eq, tLc2_eq, tMeth, tMethX, StX.tStar, tLock, tLockE, iItems, iKeys,
  cxOf_K, cxOf_noxK, L2.start, List.map_cons, List.map_nil, List.length_cons, List.length_nil, Nat.reduceAdd, Nat.reduceSub, List.replicate_succ, List.replicate_zero, List.replicate, List.cons_append, List.nil_append, List.getElem?_cons_zero, List.getElem?_cons_succ, List.set_cons_zero, List.set_cons_succ, List.append_nil,
  Option.some.injEq, V.int.injEq, V.ref.injEq, V.bl.injEq, V.str.injEq, List.cons.injEq, and_true, true_and, exists_eq_left', exists_eq_left, exists_and_left, exists_and_right, exists_const, bool_ite_true, bool_ite_false, dec_ite, ndec_ite, reduceCtorEq, false_or, or_false, false_and, and_false, decide_eq_true_eq, and_assoc, reduceIte, ite_true, ite_false, Int.zero_add])

/-! ### without_zeros -/
def trimZ (ns : List Int) : List Int := (ns.reverse.dropWhile fun n => n == 0).reverse
theorem trimZ_zero (ns : List Int) : trimZ (ns ++ [0]) = trimZ ns := by
  unfold trimZ
  rw [List.reverse_append]
  rfl
theorem trimZ_keep {ns : List Int} {n : Int} (h : n ≠ 0) : trimZ (ns ++ [n]) = ns ++ [n] := by
  unfold trimZ
  rw [List.reverse_append]
  show ((n :: ns.reverse).dropWhile fun n => n == 0).reverse = _
  rw [List.dropWhile_cons, if_neg (by simpa using h), List.reverse_cons, List.reverse_reverse]
theorem take_last {ns : List Int} {m : Nat} {n : Int} (h : ns[m]? = some n) : ns.take (m + 1) = ns.take m ++ [n] := by
  rw [List.take_succ, h]
  rfl
theorem slc {K : PySem.W.Frag} {a : Addr} {xs : List V} {lo hi : Option Int} {H : Hp} {Q : VK} (h : SqT K H a xs) (q : ∀ r H', Same H H' → SqT K H' r (cutV xs lo hi) → Q (.ref r) H') : rSlA K (.ref a) lo hi H Q :=
  ⟨a, xs, rfl, h, fun hw => q a H (Same.refl H) (by rw [cutV_whole hw]; exact h), fun _ p hp => q p _ (same_new hp) (SqT.of upd_same)⟩
theorem cut_take (xs : List V) {m : Nat} (h : m ≤ xs.length) : cutV xs none (some (m : Int)) = xs.take m := by
  have e1 : HT.sIx xs.length xs.length (some (m : Int)) = m := by
    show (if ((m : Nat) : Int) < 0 then (((m : Nat) : Int) + (xs.length : Int)).toNat else min ((m : Nat) : Int).toNat xs.length) = m
    rw [if_neg (by omega)]
    omega
  have e3 : HT.sIx xs.length 0 none = 0 := rfl
  unfold cutV
  rw [e1, e3, Nat.sub_zero, List.drop_zero]
section
variable {P : Program} {w : World} {K : PySem.W.Frag} {mg : Str → Option Value} {base : Heap}
def spWoZ (K : PySem.W.Frag) : Sp := fun vs H Q _ => ∃ (a : Addr) (ns : List Int), vs = [.ref a] ∧ SqT K H a (ns.map V.int) ∧ ns.length ≤ 900 ∧ ∀ D G, Same H G → SqT K G D ((trimZ ns).map V.int) → Q (.ref D) G
theorem scWoZ : FnScope ["values", "many"] ["values"] (defScope sWoZ) := ⟨rfl, rfl, rfl, by decide +kernel, rfl, by decide +kernel, by decide +kernel⟩
theorem c_woZ (D : Def K mg "without_zeros" sWoZ ["values"]) (T : Bl2 mg) (n_len : mg "len" = none) : FnC P w K mg base CX0 1 "without_zeros" ["values"] (spWoZ K) := by
  refine D.ok scWoZ (fun vs H Q E h => ?_) (fun f cdv A outer s H vs Q E hr h => ?_)
  · obtain ⟨a, ns, rfl, _⟩ := h
    rfl
  · obtain ⟨a, ns, rfl, ha, hl, k⟩ := h
    have sc := scWoZ
    refine ⟨_, (pss_cons (ps_set (i := 1) sc.nd rfl (Or.inl rfl) (pe_callB call_len_seq (by rfl) n_len (by decide +kernel) (pa_cons (pv 0) pa_nil)))
    (pss_cut (ps_while PassesOwn.never (PW.pt (pw_and (pt_cmpR op_gt (pv 1) pe_int (nomark _)) (pw_and1 (pt_cmpR op_eq (pe_ix ix_tup (pv 0) (pe_op op_sub (pv 1) pe_int) (fun _ _ => rfl)) pe_int (nomark _))))) (pss_one (ps_aug (i := 1) sc.nd rfl (Or.inl rfl) pe_int ip_sub)))
    (pss_one (ps_ret (pe_callTy call_tuple_of (by rfl) T.n_tuple (by decide +kernel) (pa_cons (pe_slice sl_tupA (pv 0) po_none (po_some (pv 1))) pa_nil)))))), ?_⟩
    walk_at "wp"
    refine ⟨_, .inr ha, ?_⟩
    refine ⟨fun τ G => ∃ m : Nat, τ = [some (.ref a), some (.int (m : Nat))] ∧ G = H ∧ m ≤ ns.length ∧ trimZ ns = ns.take m, ?_, ?_⟩
    · walk_at "wp"
      refine ⟨fun m' τ G => ∃ m : Nat, m' = m ∧ τ = [some (.ref a), some (.int (m : Nat))] ∧ G = H ∧ m ≤ ns.length ∧ trimZ (ns.take m) = trimZ ns, ⟨_, ns.length, rfl, by rw [List.length_map], rfl, Nat.le_refl _, by rw [List.take_length]⟩, ?_⟩
      rintro m' τ G ⟨m, rfl, rfl, rfl, hm, hz⟩
      walk_at "wp"
      refine ite2 (fun c => ?_) fun c => ?_
      · obtain ⟨j, rfl⟩ : ∃ j, m' = j + 1 := ⟨m' - 1, by omega⟩
        obtain ⟨n, hn⟩ : ∃ n, ns[j]? = some n := ⟨_, List.getElem?_eq_getElem (by omega)⟩
        have ht := take_last hn
        refine ⟨_, ha, .int n, at_of (j := j) (by omega) (by rw [List.getElem?_map, hn]; rfl), rfl, ite2 (fun c2 => ?_) fun c2 => ?_⟩
        · have e0 : n = 0 := by
            injection c2
          refine ⟨fun σ' H' => σ' = [some (.ref a), some (.int (j : Nat))] ∧ H' = G, fun σ' H' z => ⟨j, Nat.lt_succ_self j, z.1, z.2, by omega, ?_⟩, ⟨_, _, rfl, rfl, ⟨by
            show [some (V.ref a), some (V.int (((j + 1 : Nat) : Int) - 1))] = _
            rw [show (((j + 1 : Nat) : Int) - 1) = ((j : Nat) : Int) by omega], rfl⟩⟩⟩
          rw [← hz, ht, e0, trimZ_zero]
        · refine ⟨j + 1, rfl, hm, ?_⟩
          rw [← hz, ht, trimZ_keep fun z => c2 (by rw [z])]
      · have e : m' = 0 := by omega
        subst e
        exact ⟨0, rfl, Nat.zero_le _, by rw [← hz]; rfl⟩
    rintro τ G ⟨m, rfl, rfl, hm, hz⟩
    walk_at "wp"
    refine slc ha fun r G2 e hr2 => ⟨r, rfl, _, .inr ⟨hr2, k r G2 e ?_⟩⟩
    rw [cut_take _ (by rw [List.length_map]; exact hm), ← List.map_take, ← hz] at hr2
    exact hr2
end
end YY

set_option maxRecDepth 100000
set_option maxHeartbeats 4000000
namespace YY
open PySem PySem.Spec PyProof.Rows L2 XX
local macro_rules | `(tactic| walk_at "wp") => `(tactic| simp only [tPar3, rIndex, tAug, rExt2, tSeq, tNext, tAsg, tPar, gName, tCB, tCons, tNil, tVar, tC, tOp, tUn, rI, rI0, rU, tLst, tTup, tFor_eq, iRng1, iRng2, iList, iTup, tRet, tRetN, tDrop, tIfS, tTest, tB, tAnd, tOr, tNot, tIf, tAndV, tOrV, tNotV, tCall, tBM, tBM0, rIxL, rIxT, rAppend, tLc_eq, gSub, rSetL, rEq, rNe, rMulS, rIxS, tRevT, gTup, gCons, gNil, wipe, tYes, LcEnd, tDisp, tPairs, tChain, tSl, tPart, tNoPart, rSlT, rSlL, rCatT, rCat, rRep, rIsD, V.ty.injEq, iZipB, tDNewK, tXf, wMA, wAs, rLenK, tLenSetS, rReprE, tVeI, tOst, tErr, tMkO, sFld, tFld, rIsE2, tMakeS, rListStr, tDNotIn, tDIn, tDGet, rSetD, gSub, iEnumA, rIxD, iStr, rIn, rEqI, rLenI, tIxI, rSetI, rSortedSet, rEqK, rEqV, tCallS, tDc_eq, tLc2_eq, tMeth, tMethX, StX.tStar, tLock, tLockE, iItems, iKeys,
  cxOf_K, cxOf_noxK, L2.start, List.map_cons, List.map_nil, List.length_cons, List.length_nil, Nat.reduceAdd, Nat.reduceSub, List.replicate_succ, List.replicate_zero, List.replicate, List.cons_append, List.nil_append, List.getElem?_cons_zero, List.getElem?_cons_succ, List.set_cons_zero, List.set_cons_succ, List.append_nil,
  Option.some.injEq, V.int.injEq, V.ref.injEq, V.bl.injEq, V.str.injEq, List.cons.injEq, and_true, true_and, exists_eq_left', exists_eq_left, exists_and_left, exists_and_right, exists_const, bool_ite_true, bool_ite_false, dec_ite, ndec_ite, reduceCtorEq, false_or, or_false, false_and, and_false, decide_eq_true_eq, and_assoc, reduceIte, ite_true, ite_false, Int.zero_add])

/-- what no Data is -/
structure NoD (K : PySem.W.Frag) (C : Addr) : Prop where
  non : PySem.W.kitOne K (.type "NoneType") (.ref C) = some false
  bool : PySem.W.kitOne K (.type "bool") (.ref C) = some false
  int : PySem.W.kitOne K (.type "int") (.ref C) = some false
  str : PySem.W.kitOne K (.type "str") (.ref C) = some false
  list : PySem.W.kitOne K (.type "list") (.ref C) = some false
  tup : PySem.W.kitOne K (.type "tuple") (.ref C) = some false
  dict : PySem.W.kitOne K (.type "dict") (.ref C) = some false
theorem NoD.of {K : PySem.W.Frag} {C : Addr} (n : NoD K C) (d : PyData) : PySem.W.kitOne K (.type (tyOf d)) (.ref C) = some false := by
  cases d with
  | none => exact n.non
  | bool b => exact n.bool
  | int i => exact n.int
  | str z => exact n.str
  | list ds => exact n.list
  | tuple ds => exact n.tup
  | dict kvs => exact n.dict
structure DatC (K : PySem.W.Frag) (C : Addr) : Prop where
  cls : Cls K C
  n1 : NoAttr K C "digits"
def DatAt (K : PySem.W.Frag) (C : Addr) (H : Hp) (x : Addr) (ns : List Int) : Prop := ∃ dx t, H x = some (.ins C dx [("digits", .ref t)]) ∧ SqT K H t (ns.map V.int)
theorem vals_ints {K : PySem.W.Frag} {H : Hp} : ∀ {xs : List V} {ds : List PyData}, DpAll K H xs ds → (ds.all fun d => btw d 0 2) = true → xs = (ds.map intOf).map V.int
  | _, _, .nil, _ => rfl
  | _, _, .cons (v := v) (d := d) h t, e => by
    rw [List.all_cons, Bool.and_eq_true] at e
    have h1 := int_btw e.1 h
    rw [List.map_cons, List.map_cons, ← vals_ints t e.2, ← h1.2]
section
variable {P : Program} {w : World} {K : PySem.W.Frag} {mg : Str → Option Value} {base : Heap}
end
end YY

set_option maxRecDepth 100000
set_option maxHeartbeats 4000000
namespace YY
open PySem PySem.Spec PyProof.Rows L2 XX
local macro_rules | `(tactic| walk_at "wp") => `(tactic| simp only [tPar3, rIndex, tAug, rExt2, tSeq, tNext, tAsg, tPar, gName, tCB, tCons, tNil, tVar, tC, tOp, tUn, rI, rI0, rU, tLst, tTup, tFor_eq, iRng1, iRng2, iList, iTup, tRet, tRetN, tDrop, tIfS, tTest, tB, tAnd, tOr, tNot, tIf, tAndV, tOrV, tNotV, tCall, tBM, tBM0, rIxL, rIxT, rAppend, tLc_eq, gSub, rSetL, rEq, rNe, rMulS, rIxS, tRevT, gTup, gCons, gNil, wipe, tYes, LcEnd, tDisp, tPairs, tChain, tSl, tPart, tNoPart, rSlT, rSlL, rCatT, rCat, rRep, rIsD, V.ty.injEq, iZipB, tDNewK, tXf, wMA, wAs, rLenK, tLenSetS, rReprE, tVeI, tOst, tErr, tMkO, sFld, tFld, rIsE2, tMakeS, rListStr, tDNotIn, tDIn, tDGet, rSetD, gSub, iEnumA, rIxD, iStr, rIn, rEqI, rLenI, tIxI, rSetI, rSortedSet, rEqK, rEqV, tCallS, tDc_eq, tLc2_eq, tMeth, tMethX, StX.tStar, tLock, tLockE, iItems, iKeys,
  cxOf_K, cxOf_noxK, L2.start, List.map_cons, List.map_nil, List.length_cons, List.length_nil, Nat.reduceAdd, Nat.reduceSub, List.replicate_succ, List.replicate_zero, List.replicate, List.cons_append, List.nil_append, List.getElem?_cons_zero, List.getElem?_cons_succ, List.set_cons_zero, List.set_cons_succ, List.append_nil,
  Option.some.injEq, V.int.injEq, V.ref.injEq, V.bl.injEq, V.str.injEq, List.cons.injEq, and_true, true_and, exists_eq_left', exists_eq_left, exists_and_left, exists_and_right, exists_const, bool_ite_true, bool_ite_false, dec_ite, ndec_ite, reduceCtorEq, false_or, or_false, false_and, and_false, decide_eq_true_eq, and_assoc, reduceIte, ite_true, ite_false, Int.zero_add])

/-! ### Data.__init__ -/
abbrev sDInit : Stmt := inClass (topS 31) 0
def spDI (K : PySem.W.Frag) (C cB : Addr) : Sp := fun vs H Q E => ∃ (x dx p : Addr) (xs : List V) (ds : List PyData), vs = [.ref x, .ref p] ∧ H x = some (.ins C dx []) ∧ SqT K H p xs ∧ DpAll K H xs ds ∧ xs.length ≤ 900 ∧ (valsB ds = false → raisesV cB (.ref p) H E) ∧
  (valsB ds = true → ∀ t G, Ex x H G → G x = some (.ins C dx [("digits", .ref t)]) → SqT K G t ((trimZ (ds.map intOf)).map V.int) → Q .non G)
theorem scDI : FnScope ["self", "values"] ["self", "values"] (defScope sDInit) := ⟨rfl, rfl, rfl, by decide +kernel, rfl, by decide +kernel, by decide +kernel⟩
section
variable {P : Program} {w : World} {K : PySem.W.Frag} {mg : Str → Option Value} {base : Heap}
theorem b_DI {C fI f : Addr} {fdI : FuncData} {cB : Addr} {cdv : Value} {A : Around} {outer : List Env} {s : Shared} {H : Hp} {vs : List V} {Q : VK} {E : XK} (dc : DatC K C) (EB : ErrC K mg "BadData" cB fI)
    (cI : FnOk P w K mg base CX0 1 fI fdI ["self", "value"] (spErr K)) (hbI : Binds K fdI ["self", "value"] []) (cA : FnC P w K mg base CX0 3 "are_values" ["values"] (spAreV K)) (cZ : FnC P w K mg base CX0 1 "without_zeros" ["values"] (spWoZ K))
    (hr : Room 3 (A.deeper (envOfC "Data.__init__" (defScope sDInit) s.heap.objs.size f cdv))) (h : spDI K C cB vs H Q E) :
    ∃ t, PSs (cxOf (L2.CX P w) P w K mg base ["self", "values"] "Data.__init__" (defScope sDInit) f cdv A outer s H E) (defBody sDInit) t ∧ t { nx := fun _ H' => Q .non H', rt := Q } (L2.start ["self", "values"] vs) H := by
  obtain ⟨x, dx, p, xs, ds, rfl, hx, hp, hd, hl, kerr, k⟩ := h
  have sc := scDI
  have hr1 : Room 1 _ := hr.mono (by decide)
  have hr2 : Room 2 _ := hr.mono (by decide)
  refine ⟨_, (pss_cut (ps_if (pt_not (pt_val (pe_c cA hr rfl (pa_cons (pv 1) pa_nil)))) (pss_one (ps_err EB cI hbI hr2 rfl (takes_of rfl rfl rfl rfl) (pv 1) rfl)) pss_nil)
    (pss_one (ps_fld (pv 0) (pe_c cZ hr1 rfl (pa_cons (pv 1) pa_nil)) rfl))), ?_⟩
  refine ⟨fun τ G => τ = [some (.ref x), some (.ref p)] ∧ Same H G ∧ valsB ds = true, ?_, ?_⟩
  · walk_at "wp"
    refine ⟨true, p, xs, ds, rfl, hp, hd, hl, fun G e => ⟨_, rfl, ?_⟩⟩
    cases hv : valsB ds with
    | false =>
      rw [if_pos (by rfl)]
      exact err_of2 EB.oex EB.no fun d' hd' => kerr hv _ d' e hd'
    | true =>
      rw [if_neg (show ¬ (!true) = true from Bool.false_ne_true)]
      exact ⟨e, rfl⟩
  rintro τ G ⟨rfl, g, hv⟩
  have kk := k hv
  walk_at "wp"
  have hxs : xs = (ds.map intOf).map V.int := by
    refine vals_ints hd ?_
    unfold valsB at hv
    rw [Bool.and_eq_true] at hv
    exact hv.2
  have el := dpAll_len hd
  have hp2 : SqT K G p ((ds.map intOf).map V.int) := by
    rw [← hxs]
    exact Same.sqT g hp
  refine ⟨p, ds.map intOf, rfl, hp2, by rw [List.length_map]; omega, fun D G2 e hD => ⟨C, dx, [], e _ _ (g _ _ hx), dc.cls, dc.n1, by decide, kk D _ (fun b o hb hh => ?_) upd_same ?_⟩⟩
  · rw [upd_ne hb]
    exact e _ _ (g _ _ hh)
  · exact sqT_ex (e _ _ (g _ _ hx)) ex_upd hD
end
end YY

set_option maxRecDepth 100000
set_option maxHeartbeats 4000000
namespace L2
open PySem PySem.Spec PyProof.Rows XX
theorem tuple_mul1 (l : Addr) (items : Array Value) (n : Nat) (dd : Option Addr) (sl : Array (Option Value)) (x : Int) (u : Tok) (c0 : (decide (x < -(2 ^ 63)) || decide (x ≥ 2 ^ 63)) = false) (c1 : (items.isEmpty || x == 1) = true) :
    Meets (Builtin.«tuple.__mul__» ⟨[.ref l, .int x u], []⟩) (fun _ R s => s.heap.get? l = some { cls := .type "tuple", dict := dd, data := .seq items n, slots := sl } ∧ R (.ok (.ret (.ref l))) s) :=
  .of_wp fun prog w A R s h => by
    obtain ⟨hp, g, d, tk, os⟩ := s
    obtain ⟨hl, h⟩ := h
    have f1 := AutoSeq1.idx_int
    wp_walk using wpAny_loadPart' hl
    repeat (first
      | (refine wpAny_ite_false (decide_eq_false (by rw [c0]; exact Bool.false_ne_true)) ?_; wp_walk using wpAny_loadPart' hl)
      | (refine wpAny_ite_true (decide_eq_true (by rw [c1])) ?_; wp_walk using wpAny_loadPart' hl))
    exact ⟨_, rfl, h⟩
theorem tuple_mul0 (l : Addr) (items : Array Value) (n : Nat) (dd : Option Addr) (sl : Array (Option Value)) (x : Int) (u : Tok) (c0 : (decide (x < -(2 ^ 63)) || decide (x ≥ 2 ^ 63)) = false) (c1 : (items.isEmpty || x == 1) = false) (c2 : (decide (x ≤ 0) || items.isEmpty) = true) :
    Meets (Builtin.«tuple.__mul__» ⟨[.ref l, .int x u], []⟩) (fun _ R s => s.heap.get? l = some { cls := .type "tuple", dict := dd, data := .seq items n, slots := sl } ∧
      R (.ok (.ret (Value.ref s.heap.objs.size))) { s with heap := s.heap.push { cls := Value.type "tuple", data := Data.seq #[] }, toks := s.toks }) :=
  .of_wp fun prog w A R s h => by
    obtain ⟨hp, g, d, tk, os⟩ := s
    obtain ⟨hl, h⟩ := h
    have f1 := AutoSeq1.idx_int
    wp_walk using wpAny_loadPart' hl
    repeat (first
      | (refine wpAny_ite_false (decide_eq_false (by rw [c0]; exact Bool.false_ne_true)) ?_; wp_walk using wpAny_loadPart' hl)
      | (refine wpAny_ite_false (decide_eq_false (by rw [c1]; exact Bool.false_ne_true)) ?_; wp_walk using wpAny_loadPart' hl)
      | (refine wpAny_ite_true (decide_eq_true (by rw [c2])) ?_; wp_walk using wpAny_loadPart' hl))
    exact ⟨_, rfl, h⟩
theorem same_laid {H : Hp} {q : Addr} {o : HO} (e : H q = none) : Same H (upd H q o) := fun b u hb => by
  have hne : b ≠ q := fun z => by
    rw [z, e] at hb
    cases hb
  rw [upd_ne hne]
  exact hb
section
variable {X : Cx}
/-- t * k for any k up to 1000 -/
def rRepA (K : PySem.W.Frag) : R2 := fun x y H Q => ∃ l k xs, x = .ref l ∧ y = .int k ∧ SqT K H l xs ∧ -1000 ≤ k ∧ k ≤ 1000 ∧ xs.length ≤ 1000 ∧ ∀ p G, Same H G → SqT K G p (List.replicate k.toNat xs).flatten → Q (.ref p) G
theorem op_repA : OpR X (binaryOp .Mult) (rRepA X.K) := by
  intro pins s σ H x y v u Q I rx ry h
  obtain ⟨l, k, xs, rfl, rfl, hT, h1, h2, hz, q⟩ := h
  by_cases hb : xs ≠ [] ∧ 2 ≤ k
  · exact op_repT pins s σ H _ _ v u Q I rx ry ⟨l, k, xs, rfl, rfl, hT, hb.1, hb.2, h2, hz, fun p hp => q p _ (same_laid hp) (SqT.of upd_same)⟩
  cases rx
  obtain ⟨t, rfl⟩ := ry
  obtain ⟨its, r, ⟨⟨cls, dd, data, sl⟩, ho, hc, n, hd⟩, hs⟩ := I.tuple hT
  simp only at hc hd
  subst hc hd
  have c0 : (decide (k < -(2 ^ 63)) || decide (k ≥ 2 ^ 63)) = false := by
    rw [decide_eq_false (by omega), decide_eq_false (by omega)] <;> rfl
  by_cases c1 : (its.toArray.isEmpty || k == 1) = true
  · refine wpAny_binaryOp_repeat_ref (T := "tuple") (U := "int") (by decide) ⟨_, ho, rfl⟩ (fun s' => typeIs_int s' k t) noFill_tuple_mul F.fills_int_mul F.slot_int_rmul repeat_tuple F.slot_int_index.lookup
      (call_meets F.slot_int_rmul (typeIs_int s k t) F.entry_int_rmul (F.args_int_rmul_2 _ _) (int_rmul_tuple k t l its.toArray n dd sl)
        ⟨ho, rfl, ⟨_, ho, rfl⟩, call_meets F.slot_tuple_mul ⟨_, ho, rfl⟩ F.entry_tuple_mul (F.args_tuple_mul_2 _ _) (tuple_mul1 l its.toArray n dd sl k t c0 c1) ⟨ho, ?_⟩⟩)
    refine ⟨.ref l, H, I, rfl, q l H (Same.refl _) ?_⟩
    have e : (List.replicate k.toNat xs).flatten = xs := by
      rcases Bool.or_eq_true_iff.mp c1 with e | e
      · have hi : its = [] := by
          cases its with
          | nil => rfl
          | cons a b => cases e
        subst hi
        cases r
        simp
      · have : k = 1 := by simpa using e
        subst this
        simp
    rw [e]
    exact hT
  · have c1 : (its.toArray.isEmpty || k == 1) = false := by simpa using c1
    have hne : xs ≠ [] := fun e => by
      subst e
      cases r
      simp at c1
    have hk1 : k ≠ 1 := fun e => by
      subst e
      simp at c1
    have hk : k ≤ 0 := by
      have : ¬ 2 ≤ k := fun e => hb ⟨hne, e⟩
      omega
    refine wpAny_binaryOp_repeat_ref (T := "tuple") (U := "int") (by decide) ⟨_, ho, rfl⟩ (fun s' => typeIs_int s' k t) noFill_tuple_mul F.fills_int_mul F.slot_int_rmul repeat_tuple F.slot_int_index.lookup
      (call_meets F.slot_int_rmul (typeIs_int s k t) F.entry_int_rmul (F.args_int_rmul_2 _ _) (int_rmul_tuple k t l its.toArray n dd sl)
        ⟨ho, rfl, ⟨_, ho, rfl⟩, call_meets F.slot_tuple_mul ⟨_, ho, rfl⟩ F.entry_tuple_mul (F.args_tuple_mul_2 _ _) (tuple_mul0 l its.toArray n dd sl k t c0 c1 (by rw [decide_eq_true hk]; rfl)) ⟨ho, ?_⟩⟩)
    have e : (List.replicate k.toNat xs).flatten = [] := by
      rw [show k.toNat = 0 by omega]
      rfl
    refine ⟨.ref s.heap.objs.size, _, I.laid (t' := s.toks) (o := .tup []) (fun b ob q => Heap.get?_push_of_some _ q) (Nat.le_refl _) ?_, rfl, q _ _ (same_laid (I.hok.fresh (Nat.le_refl _))) (by rw [e]; exact SqT.of upd_same)⟩
    exact ⟨by simp, [], .nil, IsTup.new _ _⟩
end
end L2

set_option maxRecDepth 100000
set_option maxHeartbeats 4000000
namespace XX
open PySem PySem.Spec PyProof.Rows L2
section
variable {X : Cx} {k : Nat} {C : Addr} {sp : Sp}
/-- repr(o), by an own __repr__ -/
def rReprI (C : Addr) (sp : Sp) : List V → Hp → VK → Prop := fun xs H Q => ∃ a dx fs, xs = [.ref a] ∧ H a = some (.ins C dx fs) ∧ sp xs H (fun v H' => ∃ z : Str, v = .str z ∧ Q (.str z) H') E0
end
end XX

set_option maxRecDepth 100000
set_option maxHeartbeats 4000000
namespace XX
open PySem PySem.Spec PyProof.Rows L2
section
variable {X : Cx} {CX : CXT} {k : Nat} {f C : Addr} {sp : Sp} {E : XK} {x : Str} {e : Expr} {te : TE} {p sp_ pos : Pos}
/-- C(*y): an instance made of the items of y -/
def tMakeV (K : PySem.W.Frag) (C : Addr) (sp : Sp) (E : XK) (te : TE) : TE := fun σ H Q => te σ H fun y H1 => ∃ a xs, y = V.ref a ∧ (SqT K H1 a xs ∨ SqL K H1 a xs) ∧ ∀ z dx, H1 z = none → H1 dx = none → dx ≠ z →
  sp (V.ref z :: xs) (upd (upd H1 dx (.own z)) z (.ins C dx [])) (fun v H2 => v = .non ∧ Q (.ref z) H2) E
end
/-! ### a staticmethod, called by its class -/
structure SMet (K : PySem.W.Frag) (C : Addr) (mc : Value) (m : Str) (p g : Addr) : Prop where
  at_ : PySem.W.findCls K (.ref C) mc m = some (.get (.builtin "staticmethod.__get__") (.ref p) .none (.ref C))
  rc : ∃ rest, PySem.W.recIn K p "staticmethod" = some (.ref g :: rest)
  kp : PySem.W.keepIn K (.ref g) = true
/-- e.m(..), e the class at C -/
def tSMeth (C : Addr) (sp : Sp) (E : L2.St → XK) (ta : TE) (t : TA) : TE := fun σ H Q => ta σ H fun x H1 => x = .ref C ∧ t σ H1 fun vs H2 => sp vs H2 Q (E σ)
section
variable {X : Cx} {CX : CXT} {k : Nat} {C p g : Addr} {mc : Value} {fd : FuncData} {ps : List Str} {sp : Sp} {E : L2.St → XK} {o e : Expr} {es : List Expr} {m : Str} {pos apos : Pos} {ta : TE} {t : TA} {pl : Sem Bool}
theorem pe_smeth (he : PE X o ta) (r : ClX.CRead X.K C mc) (c : SMet X.K C mc m p g) (F : FnOk X.prog X.w X.K X.mg X.base CX k g fd ps sp) (bi : Binds X.K fd ps []) (hr : Room k X.A) (hx : ∀ σ, PassesAt CX X σ (E σ)) (ha : PA X (e :: es) t)
    (hst : starEach (e :: es) X.env = (false, eval e X.env) :: starEach es X.env := by rfl) (hpl : (backTo pos (starEach es X.env)).any (·.1) = false := by rfl)
    (ht : eval (.Call (.Attribute o m apos) (e :: es) [] pos) X.env = (do
      let ov ← eval o X.env
      standAt apos.atName
      let (f, first) ← holding [ov] (getMethod ov m pl)
      callWith pos f first (backTo pos (starEach (e :: es) X.env)) (backToKw pos (keywordEach [] X.env))) := by rfl) :
    PE X (.Call (.Attribute o m apos) (e :: es) [] pos) (tSMeth C sp E ta t) := by
  refine ⟨fun pins s σ H Q I h => ?_⟩
  refine PySem.W.methodCall_KW (pl := pl) (thn (he.run pins s σ H _ I h) fun u s1 ⟨x, H1, I1, rx, ex, q⟩ => ?_) ht
  subst ex
  obtain rfl : u = Value.ref C := rx
  obtain ⟨rest, hp⟩ := c.rc
  refine PySem.W.method_cls I1.kIn r.ga ?_
  refine PySem.W.cls_bind I1.kIn r.rd c.at_ ?_
  refine wpAny_call (PySem.W.sm_get (s := { s1 with toks := s1.toks + 1 }) I1.kIn hp ?_)
  refine PySem.W.handed_on rfl ?_
  have I2 := I1.tok (s1.toks + 1)
  refine PySem.W.callWith_K (h₀ := X.base) I2.ok.mod.kin c.kp (thn (ha.run pos pins _ σ H1 _ I2 q) fun us s3 ⟨vs, H2, I3, rv, q2⟩ => ⟨I3.kIn, ?_⟩) hst hpl
  exact run_at F hr I3.env0 bi (hx σ) I3 rv q2
end
end XX

set_option maxRecDepth 100000
set_option maxHeartbeats 4000000
namespace XX
open PySem PySem.Spec PyProof.Rows L2
/-! ### an instance made by a positional promise, where the call may raise at the slots -/
section
variable {X : Cx} {CX : CXT} {k : Nat} {f C : Addr} {sp : Sp} {x : Str} {e : Expr} {es : List Expr} {te : TE} {t : TA} {p sp_ pos : Pos}
theorem run_makeRS {J : L2.St} {hp : Hp} {sh : Shared} {pn : List (Addr × Obj)} {D : XK} {R : VK} {ys : List V} {ws : List Value} (M : Mk X.K C f) (F : FnR X.prog X.w X.K X.mg X.base CX k f sp) (room : Room (k + 1) X.A) (ps : PassesAt CX X J D) (I : Inv X pn J hp sh) (rl : Vals ys ws)
    (q : ∀ z dz, hp z = none → hp dz = none → dz ≠ z → sp (V.ref z :: ys) (upd (upd hp dz (.own z)) z (.ins C dz [])) (fun v h2 => v = .non ∧ R (.ref z) h2) D) :
    wpAny (model X.prog X.w) X.A (call (.ref C) ws) (EP X pn J R) X.xe sh := by
  have fr : ∀ {b : Nat}, sh.heap.objs.size ≤ b → hp b = none := fun hle => I.hok.fresh hle
  have run := F _ X.stack _ _ (Value.ref (sh.heap.objs.size + 1) :: ws) _ _ D (room.make C ws []) ((Inv.made (C := C) I).env0.make C ws []) (Paired.cons (F := RelV) (show RelV (.ref (sh.heap.objs.size + 1)) (Value.ref (sh.heap.objs.size + 1)) from rfl) rl) (q _ _ (fr (Nat.le_succ _)) (fr (Nat.le_refl _)) (Nat.ne_of_lt (Nat.lt_succ_self _)))
  refine wpAny_call (make_map (f := f) I.kIn M.makes M.init (beq_iff_eq.mp M.fn) (codeAny_mono run fun rr s' z => ?_))
  match rr, z with
  | .error er, z => exact ps pn _ _ er s' (Inv.made (C := C) I) z
  | .ok (.ret u), z =>
    obtain ⟨v, h2, I3, rv, ev, q3⟩ := (Inv.made (C := C) I).after z
    subst ev
    exact ⟨rv, ⟨.ref (sh.heap.objs.size + 1), h2, I3, rfl, q3⟩⟩
  | .ok .next, z => exact False.elim z
  | .ok .brk, z => exact False.elim z
  | .ok .cont, z => exact False.elim z
def tMakeVS (K : PySem.W.Frag) (C : Addr) (sp : Sp) (D : L2.St → XK) (te : TE) : TE := fun σ H Q => te σ H fun y H1 => ∃ a xs, y = V.ref a ∧ (SqT K H1 a xs ∨ SqL K H1 a xs) ∧ ∀ z dx, H1 z = none → H1 dx = none → dx ≠ z →
  sp (V.ref z :: xs) (upd (upd H1 dx (.own z)) z (.ins C dx [])) (fun v H2 => v = .non ∧ Q (.ref z) H2) (D σ)
theorem pe_makeVS {D : L2.St → XK} (M : Mk X.K C f) (F : FnR X.prog X.w X.K X.mg X.base CX k f sp) (room : Room (k + 1) X.A) (ps : ∀ σ, PassesAt CX X σ (D σ)) (hg : Gl X x) (hm : X.mg x = some (.ref C)) (he : PE X e te) (hd : (x == ("__debug__" : Str)) = false := by decide)
    (hst : starEach [.Starred e sp_] X.env = [(true, eval e X.env)] := by rfl) : PE X (.Call (.Name x p) [.Starred e sp_] [] pos) (tMakeVS X.K C sp D te) :=
  ⟨fun pn sh J hp R I q => wpAny_Call_Name_kw (ld_glob I hg hm (PySem.W.callWith_S (h₀ := X.base) I.ok.mod.kin M.kp (thn (he.run pn sh J hp _ I q) fun v s1 ⟨y, h1, I1, ry, a, xs, ey, hxs, q⟩ => by
    subst ey
    cases (show v = Value.ref a from ry)
    exact StX.star_any I1 hxs fun us s2 I2 rv => ⟨I2.kIn, run_makeRS M F room (ps J) I2 rv q⟩) hst) hd)⟩
def tMakeRS (C : Addr) (sp : Sp) (D : L2.St → XK) (t : TA) : TE := fun σ H Q => t σ H fun vs H1 => ∀ z dx, H1 z = none → H1 dx = none → dx ≠ z →
  sp (V.ref z :: vs) (upd (upd H1 dx (.own z)) z (.ins C dx [])) (fun v H2 => v = .non ∧ Q (.ref z) H2) (D σ)
theorem pe_makeRS {D : L2.St → XK} (M : Mk X.K C f) (F : FnR X.prog X.w X.K X.mg X.base CX k f sp) (room : Room (k + 1) X.A) (ps : ∀ σ, PassesAt CX X σ (D σ)) (hg : Gl X x) (hm : X.mg x = some (.ref C)) (ha : PA X (e :: es) t) (hd : (x == ("__debug__" : Str)) = false := by decide)
    (hst : starEach (e :: es) X.env = (false, eval e X.env) :: starEach es X.env := by rfl) (hpl : (backTo pos (starEach es X.env)).any (·.1) = false := by rfl) : PE X (.Call (.Name x p) (e :: es) [] pos) (tMakeRS C sp D t) :=
  ⟨fun pn sh J hp R I q => wpAny_Call_Name_kw (ld_glob I hg hm (PySem.W.callWith_K (h₀ := X.base) I.ok.mod.kin M.kp (thn (ha.run pos pn sh J hp _ I q) fun us s1 ⟨vs, h1, I1, r, q⟩ => ⟨I1.kIn, run_makeRS M F room (ps J) I1 r q⟩) hst hpl) hd)⟩
end
end XX

set_option maxRecDepth 100000
set_option maxHeartbeats 4000000
namespace PySem.W
open PySem PySem.Calls PyProof.Rows
/-! ### own + and * of plain instances, on either side -/
section
variable {prog : Program} {w : World} {A : Around} {E : Value → Shared → Prop} {s : Shared} {K : Frag} {x C L f f0 : Addr} {h₀ : Heap} {m : Str → Option Value} {ox : Obj} {od : Option Obj} {T : String}
/-- the own class on the left, a built-in type on the right -/
theorem own_binT {op : Operator} {b : Value} {fo ro rc : Option Value} {Q : Value → Shared → Prop} (F : Fr h₀ L s.heap m) (X₀ : K.In h₀) (I : InstAt s.heap x ox C od) (hb : Looks (model prog w) s.heap (typeOf b) (.type T)) (hc : selfFirst K C = true)
    (hs : findIn K (.ref C) (PySem.dunder op.info.2) = some (some (.ref f))) (hf : isFn K (.ref f) = true) (hr : findIn K (.ref C) (dunderR op.info.2) = some rc) (hp : rc = none ∨ ∃ g : Addr, rc = some (.ref g))
    (h1 : findIn K (.type T) (PySem.dunder op.info.2) = some fo) (h2 : findIn K (.type T) (dunderR op.info.2) = some ro) (hsub : subIn K (.type T) (.ref C) = some false)
    (h : wpAny (model prog w) A (call (.ref f) [.ref x, b]) (CmpBack Q) E s) : wpAny (model prog w) A (binaryOp op (.ref x) b) Q E s := by
  have X := X₀.keeps F.keep
  obtain ⟨cd, rest, hcd, hm⟩ := ksp_first hc
  rcases hi : op.info with ⟨sym, nm'⟩
  rw [hi] at hs hr h1 h2
  dsimp only at hs hr h1 h2
  have one := ksp_try X I hs hf h
  obtain ⟨hh, g, d, tt, os⟩ := s
  have L1 : Looks (model prog w) hh (typeOf (.ref x)) (.ref C) := I.type
  have L2 : Looks (model prog w) hh (typeOf b) (.type T) := hb
  have L3 : Looks (model prog w) hh (fillsNumberSlot (.ref C) nm') true := fills_K X hcd hm hs
  have L4 : Looks (model prog w) hh (fillsNumberSlot (.type T) nm') ((fo.isSome && !isSeqSlot fo) || (ro.isSome && !isSeqSlot ro)) := ksp_fillsT X h1 h2
  have L5 : Looks (model prog w) hh (isSubtype (.type T) (.ref C)) false := looks_subIn X hsub
  have L6 : Looks (model prog w) hh (numberSlotInPython (.ref C) nm') true := ksp_inPy X hs hr hp
  have L7 : Looks (model prog w) hh (numberSlotInPython (.type T) nm') false := Looks.of_pure rfl
  have L8 : Looks (model prog w) hh (typeLookup (.type T) (dunderR nm')) ro := looks_findIn X h2
  generalize ((fo.isSome && !isSeqSlot fo) || (ro.isSome && !isSeqSlot ro)) = right at L4
  have hne : (Value.ref C == Value.type T) = false := Bool.eq_false_iff.mpr fun q => by cases beq_iff_eq.mp q
  simp only [binaryOp, hi]
  refine wpAny_holding (wpAny_bind ?_)
  unfold binaryOp1
  refine wpAny_bind (L1.at (wpAny_bind (L2.at (wpAny_bind (L3.at ?_)))))
  simp only [hne, Bool.false_eq_true, if_false]
  cases right with
  | false =>
    ksp_lk
    refine wpAny_mono one (fun r s' hr' => ?_) fun _ _ e => e
    obtain ⟨v, rfl, hq⟩ := hr'
    ksp_lk
    exact hq
  | true =>
    ksp_lk
    refine wpAny_mono one (fun r s' hr' => ?_) fun _ _ e => e
    obtain ⟨v, rfl, hq⟩ := hr'
    ksp_lk
    exact hq
end
end PySem.W

set_option maxRecDepth 100000
set_option maxHeartbeats 4000000
namespace XX
open PySem PySem.Spec PyProof.Rows L2
theorem rel_back {Q : Value → Shared → Prop} {z : V} {v : Value} {s : Shared} (r : RelV z v) (q : Q v s) : PySem.W.CmpBack Q v s := by
  cases z with
  | non => cases r; exact q
  | bl b => cases r; exact q
  | int i =>
    obtain ⟨t, rfl⟩ := r
    exact q
  | str x =>
    obtain ⟨t, rfl⟩ := r
    exact q
  | byt b =>
    obtain ⟨t, rfl⟩ := r
    exact q
  | flt b =>
    obtain ⟨t, rfl⟩ := r
    exact q
  | ref a => cases r; exact q
  | ty n => cases r; exact q
/-- what an own operator asks of its class -/
structure OpC (K : PySem.W.Frag) (C : Addr) (op : Operator) : Prop where
  first : PySem.W.selfFirst K C = true
  r : ∃ rc, PySem.W.findIn K (.ref C) (dunderR op.info.2) = some rc ∧ (rc = none ∨ ∃ g : Addr, rc = some (.ref g))
/-- .. of a built-in type beside it -/
structure OpT (K : PySem.W.Frag) (C : Addr) (op : Operator) (T : String) : Prop where
  l : ∃ fo ro, PySem.W.findIn K (.type T) (PySem.dunder op.info.2) = some fo ∧ PySem.W.findIn K (.type T) (dunderR op.info.2) = some ro
  sub : PySem.W.subIn K (.type T) (.ref C) = some false
/-- .. that fills no number slot -/
def OpN (K : PySem.W.Frag) (op : Operator) (T : String) : Prop := ∃ fo ro, PySem.W.findIn K (.type T) (PySem.dunder op.info.2) = some fo ∧ PySem.W.findIn K (.type T) (dunderR op.info.2) = some ro ∧ ((fo.isSome && !isSeqSlot fo) || (ro.isSome && !isSeqSlot ro)) = false
section
variable {X : Cx} {CX : CXT} {k : Nat} {C : Addr} {sp : Sp} {op : Operator}
/-- a op b, a an instance of C -/
def tOpI (K : PySem.W.Frag) (C : Addr) (op : Operator) (sp : Sp) (E : L2.St → XK) (ta tb : TE) : TE := fun σ H Q => ta σ H fun x H1 => tb σ H1 fun y H2 => ∃ a dx fs, x = .ref a ∧ H2 a = some (.ins C dx fs) ∧ ((∃ b dy gs, y = .ref b ∧ H2 b = some (.ins C dy gs)) ∨ ∃ T, TyX K H2 y (.type T) ∧ OpT K C op T) ∧ sp [x, y] H2 Q (E σ)
theorem pe_opI {E : L2.St → XK} {ta tb : TE} {a b : Expr} {pos : Pos} (M : MtC X.prog X.w X.K X.mg X.base CX k C (PySem.dunder op.info.2) ["self", "other"] sp) (O : OpC X.K C op) (hr : Room k X.A) (hx : ∀ σ, PassesAt CX X σ (E σ)) (ha : PE X a ta) (hb : PE X b tb) : PE X (.BinOp a op b pos) (tOpI X.K C op sp E ta tb) := by
  refine ⟨fun pins s σ H Q I h => ?_⟩
  refine wpAny_BinOp (binT ha hb I h fun v u s2 x y H2 I2 rx ry q => ?_)
  obtain ⟨a', dx, fs, rfl, ea, hy, q2⟩ := q
  obtain rfl : v = Value.ref a' := rx
  obtain ⟨f, fd, F, hm, bi⟩ := M.ex
  obtain ⟨mA, J, _⟩ := ins_get I2.hok ea
  obtain ⟨od, J, _⟩ := J.look
  obtain ⟨m, hF⟩ := I2.fr
  have run := wpAny_mono (run_at F hr I2.env0 bi (hx σ) I2 (us := [.ref a', u]) (vs := [.ref a', y]) (.cons rfl (.cons ry .nil)) q2) (fun w s' q => by
    obtain ⟨z, H', I', rz, q⟩ := q
    exact rel_back (Q := EP X pins σ Q) rz ⟨z, H', I', rz, q⟩) fun _ _ e => e
  rcases hy with ⟨b', dy, gs, rfl, eb⟩ | ⟨T, hT, OT⟩
  · cases ry
    obtain ⟨mB, JB, _⟩ := ins_get I2.hok eb
    obtain ⟨odB, JB, _⟩ := JB.look
    exact PySem.W.binop_K hF I2.ok.mod.kin J JB.type O.first hm.at_ hm.fn run
  · obtain ⟨Pk, Z, hP, _⟩ := kit_of I2 ry hT
    obtain ⟨rc, h1, h2⟩ := O.r
    obtain ⟨fo, ro, h3, h4⟩ := OT.l
    exact PySem.W.own_binT hF I2.ok.mod.kin J (Z.ty _ _ I2.kIn hP) O.first hm.at_ hm.fn h1 h2 h3 h4 OT.sub run
/-- a op b, b an instance of C, a of a built-in type without number slots -/
def tOpR (K : PySem.W.Frag) (C : Addr) (op : Operator) (sp : Sp) (E : L2.St → XK) (ta tb : TE) : TE := fun σ H Q => ta σ H fun x H1 => tb σ H1 fun y H2 => ∃ b dy gs, y = .ref b ∧ H2 b = some (.ins C dy gs) ∧ (∃ T, TyX K H2 x (.type T) ∧ OpN K op T) ∧ sp [y, x] H2 Q (E σ)
end
end XX

set_option maxRecDepth 100000
set_option maxHeartbeats 4000000
namespace PySem
open Sem (wp)
open Builtin
end PySem
namespace PySem.W
open PySem PySem.Calls PyProof.Rows
section
variable {prog : Program} {w : World} {A : Around} {E : Value → Shared → Prop} {s : Shared} {K : Frag} {x C L f f0 : Addr} {h₀ : Heap} {m : Str → Option Value} {ox : Obj} {od : Option Obj} {T : String}
end
end PySem.W
namespace XX
open PySem PySem.Spec PyProof.Rows L2
section
variable {X : Cx} {CX : CXT} {k : Nat} {C : Addr} {sp : Sp}
/-- n * b, b an instance of C, n an int or a bool -/
def tMulD (C : Addr) (sp : Sp) (E : L2.St → XK) (ta tb : TE) : TE := fun σ H Q => ta σ H fun x H1 => tb σ H1 fun y H2 => ∃ b dy gs, y = .ref b ∧ H2 b = some (.ins C dy gs) ∧ ((∃ i, x = .int i) ∨ ∃ t, x = .bl t) ∧ sp [y, x] H2 Q (E σ)
end
end XX

set_option maxRecDepth 100000
set_option maxHeartbeats 4000000
namespace YY
open PySem PySem.Spec PyProof.Rows L2 XX
local macro_rules | `(tactic| walk_at "wp") => `(tactic| simp only [tPar3, rIndex, tAug, rExt2, tSeq, tNext, tAsg, tPar, gName, tCB, tCons, tNil, tVar, tC, tOp, tUn, rI, rI0, rU, tLst, tTup, tFor_eq, iRng1, iRng2, iList, iTup, tRet, tRetN, tDrop, tIfS, tTest, tB, tAnd, tOr, tNot, tIf, tAndV, tOrV, tNotV, tCall, tBM, tBM0, rIxL, rIxT, rAppend, tLc_eq, gSub, rSetL, rEq, rNe, rMulS, rIxS, tRevT, gTup, gCons, gNil, wipe, tYes, LcEnd, tDisp, tPairs, tChain, tSl, tPart, tNoPart, rSlT, rSlL, rCatT, rCat, rRep, rIsD, V.ty.injEq, iZipB, tDNewK, tXf, wMA, wAs, rLenK, tLenSetS, rReprE, tVeI, tOst, tErr, tMkO, sFld, tFld, rIsE2, tMakeS, rListStr, tDNotIn, tDIn, tDGet, rSetD, gSub, iEnumA, rIxD, iStr, rIn, rEqI, rLenI, tIxI, rSetI, rSortedSet, rEqK, rEqV, tCallS, tDc_eq, tLc2_eq, tMeth, tMethX, tSMeth, tMakeV, tMakeVS, tMakeRS, WE, tOpI, tOpR, tMulD, rRepA, rReprI, rCatA, StX.tMakeR, StX.tStar, tLock, tLockE, iItems, iKeys,
  cxOf_K, cxOf_noxK, L2.start, List.map_cons, List.map_nil, List.length_cons, List.length_nil, Nat.reduceAdd, Nat.reduceSub, List.replicate_succ, List.replicate_zero, List.replicate, List.cons_append, List.nil_append, List.getElem?_cons_zero, List.getElem?_cons_succ, List.set_cons_zero, List.set_cons_succ, List.append_nil,
  Option.some.injEq, V.int.injEq, V.ref.injEq, V.bl.injEq, V.str.injEq, List.cons.injEq, and_true, true_and, exists_eq_left', exists_eq_left, exists_and_left, exists_and_right, exists_const, bool_ite_true, bool_ite_false, dec_ite, ndec_ite, reduceCtorEq, false_or, or_false, false_and, and_false, decide_eq_true_eq, and_assoc, reduceIte, ite_true, ite_false, Int.zero_add])

/-! ### making; of -/
abbrev sOf : Stmt := inClass (topS 31) 1
abbrev sEqD : Stmt := inClass (topS 31) 2
abbrev sLenD : Stmt := inClass (topS 31) 3
abbrev sMulD : Stmt := inClass (topS 31) 9
def raisesD (K : PySem.W.Frag) (cls : Addr) (d : PyData) (H : Hp) (E : XK) : Prop := ∀ G e v, Same H G → DpE K G v d → G e = none → E (.ref cls) (some e) (upd G e (.xd [("value", v)]))
theorem raisesD.same {K : PySem.W.Frag} {cls : Addr} {d : PyData} {H G : Hp} {E : XK} (e : Same H G) (h : raisesD K cls d H E) : raisesD K cls d G E := fun F x v s => h F x v (e.trans s)
def dataQ (K : PySem.W.Frag) (C : Addr) (ns : List Int) (H : Hp) (Q : VK) : Prop := ∀ G x, Same H G → DatAt K C G x ns → Q (.ref x) G
theorem dataQ.same {K : PySem.W.Frag} {C : Addr} {ns : List Int} {H G : Hp} {Q : VK} (e : Same H G) (h : dataQ K C ns H Q) : dataQ K C ns G Q := fun F x s => h F x (e.trans s)
theorem datAt_same {K : PySem.W.Frag} {C x : Addr} {ns : List Int} {H G : Hp} (e : Same H G) (h : DatAt K C H x ns) : DatAt K C G x ns := by
  obtain ⟨dx, t, h1, h2⟩ := h
  exact ⟨dx, t, e _ _ h1, Same.sqT e h2⟩
def spDR (K : PySem.W.Frag) (C cB : Addr) : Sp := fun vs H Q E => ∃ ws rest, vs = ws ++ rest ∧ ws.length = ["self"].length ∧ rest.length ≤ sizeLine ∧ ∀ p, H p = none → spDI K C cB (ws ++ [V.ref p]) (upd H p (.tup rest)) Q E
theorem mk_run {K : PySem.W.Frag} {C cB : Addr} {H : Hp} {Q : VK} {E : XK} {vs : List V} {ds : List PyData} (hd : DpAll K H vs ds) (hl : vs.length ≤ 900) (k0 : valsB ds = false → raisesD K cB (.tuple ds) H E) (k1 : valsB ds = true → dataQ K C (trimZ (ds.map intOf)) H Q) :
    ∀ x dx, H x = none → H dx = none → dx ≠ x → spDR K C cB (.ref x :: vs) (upd (upd H dx (.own x)) x (.ins C dx [])) (fun v H2 => v = .non ∧ Q (.ref x) H2) E := by
  intro x dx hx hdx hne
  have s1 : Same H (upd H dx (.own x)) := same_new hdx
  have hx1 : (upd H dx (.own x)) x = none := by rw [upd_ne hne.symm]; exact hx
  have s2 : Same H (upd (upd H dx (.own x)) x (.ins C dx [])) := s1.trans (same_new hx1)
  refine ⟨[.ref x], vs, rfl, rfl, by rw [sizeLine_eq]; omega, fun p hp => ?_⟩
  have hpx : x ≠ p := fun e => by
    subst e
    rw [upd_same] at hp
    cases hp
  have s3 := s2.trans (same_new (o := .tup vs) hp)
  refine ⟨x, dx, p, vs, ds, rfl, by rw [upd_ne hpx, upd_same], SqT.of upd_same, dps_same s3 _ _ hd, hl, fun hv G e s n => ?_, fun hv t G ex hG ht => ⟨rfl, ?_⟩⟩
  · exact k0 hv G e _ (s3.trans s) (.inl (.tup (Same.sqT s (SqT.of upd_same)) (dps_same (s3.trans s) _ _ hd))) n
  · refine k1 hv G x (fun b o hb => ex b o (fun e => ?_) (s3 _ _ hb)) ⟨dx, t, hG, ht⟩
    rw [e, hx] at hb
    cases hb
section
variable {P : Program} {w : World} {K : PySem.W.Frag} {mg : Str → Option Value} {base : Heap}
/-- Data is made by an FnR -/
structure DatM (P : Program) (w : World) (K : PySem.W.Frag) (mg : Str → Option Value) (base : Heap) (C cB : Addr) : Prop where
  dc : DatC K C
  gD : mg "Data" = some (.ref C)
  make : ∃ fD, Mk K C fD ∧ FnR P w K mg base (L2.CX P w) 4 fD (spDR K C cB)
theorem fn_DI {C fI fD : Addr} {fdI : FuncData} {cB : Addr} {doc pm cdv ct oc dV kV : Value} {an od : Option Addr} {osl : Array (Option Value)} (dc : DatC K C) (EB : ErrC K mg "BadData" cB fI)
    (cI : FnOk P w K mg base CX0 1 fI fdI ["self", "value"] (spErr K)) (hbI : Binds K fdI ["self", "value"] []) (cA : FnC P w K mg base CX0 3 "are_values" ["values"] (spAreV K)) (cZ : FnC P w K mg base CX0 1 "without_zeros" ["values"] (spWoZ K))
    (lk : K.lookup fD = some ⟨oc, od, .func (PySem.W.fnOf "__init__" "Data.__init__" (defArgs sDInit) (defBody sDInit) (defScope sDInit) dV kV doc pm an cdv ct), osl⟩) (hcd : PySem.W.codeIn K cdv "Data.__init__" = true)
    (hb : ∀ us rest : List Value, us.length = ["self"].length → bindArgs (PySem.W.fnOf "__init__" "Data.__init__" (defArgs sDInit) (defBody sDInit) (defScope sDInit) dV kV doc pm an cdv ct) ⟨us ++ rest, []⟩ = (newTuple rest >>= fun t => pure ((["self"] : List Str).zip us ++ [(("values" : Str), t)]))) :
    FnR P w K mg base (L2.CX P w) 4 fD (spDR K C cB) := by
  refine StX.fn_star (k := 3) (ps := ["self"]) (pv := "values") lk hcd scDI StX.cxUp hb fun A outer s H vs Q E hr h => ?_
  exact b_DI dc EB cI hbI cA cZ hr h
/-- Data.of -/
def spOf (K : PySem.W.Frag) (C cB : Addr) : Sp := fun vs H Q E => ∃ v d, vs = [v] ∧ DpE K H v d ∧ (itemsOf d = none → raisesD K cB d H E) ∧ ∀ ds, itemsOf d = some ds → ds.length ≤ 900 ∧ (valsB ds = false → raisesD K cB (.tuple ds) H E) ∧ (valsB ds = true → dataQ K C (trimZ (ds.map intOf)) H Q)
theorem scOf : FnScope ["values"] ["values"] (defScope sOf) := ⟨rfl, rfl, rfl, by decide +kernel, rfl, by decide +kernel, by decide +kernel⟩
theorem c_of {C fI g : Addr} {gd : FuncData} {fdI : FuncData} {cB : Addr} (D : L2.Fun K "of" "Data.of" sOf g gd) (T : Bl2 mg) (M : DatM P w K mg base C cB) (EB : ErrC K mg "BadData" cB fI)
    (cI : FnOk P w K mg base CX0 1 fI fdI ["self", "value"] (spErr K)) (hbI : Binds K fdI ["self", "value"] []) : FnOk P w K mg base (L2.CX P w) 6 g gd ["values"] (spOf K C cB) := by
  refine D.okX scOf (fun vs H Q E h => ?_) (fun cdv A outer s H vs Q E hr h => ?_)
  · obtain ⟨v, d, rfl, _⟩ := h
    rfl
  · obtain ⟨v, d, rfl, hd, kerr, k⟩ := h
    obtain ⟨fD, mk, FD⟩ := M.make
    have sc := scOf
    have hr2 : Room 2 _ := hr.mono (by decide)
    refine ⟨_, (pss_cut (ps_if (pt_not (pt_val (pe_callB (call_isE2 ty_list ty_tuple) (by rfl) T.n_isinstance (by decide +kernel) (pa_cons (pv 0) (pa_cons (pe_tup (pa_cons (pe_ty "list" (by rfl) T.n_list) (pa_cons (pe_ty "tuple" (by rfl) T.n_tuple) pa_nil))) pa_nil))))) (pss_one (ps_err EB cI hbI hr2 rfl (takes_of rfl rfl rfl rfl) (pv 0) rfl)) pss_nil)
      (pss_one (ps_ret (pe_makeVS (D := WE (fun cls d _ H => E cls d H)) mk FD hr (fun σ => passAt (takes_of rfl rfl rfl rfl) σ) rfl M.gD (pv 0))))), ?_⟩
    refine ⟨fun τ G => τ = [some v] ∧ Same H G ∧ (itemsOf d).isSome = true, ?_, ?_⟩
    · walk_at "wp"
      refine ⟨by decide, fun p np => ⟨upd_same, d, dpE_same (same_new np) hd, ?_⟩⟩
      rw [isTy_seq]
      have s1 := same_new (o := .tup [V.ty "list", V.ty "tuple"]) np
      cases hi : (itemsOf d).isSome with
      | false =>
        rw [if_pos (by rfl)]
        exact err_of2 EB.oex EB.no fun d' hd' => kerr (by simpa using hi) _ d' v s1 (dpE_same s1 hd) hd'
      | true =>
        rw [if_neg (show ¬ (!true) = true from Bool.false_ne_true)]
        exact ⟨s1, rfl⟩
    rintro τ G ⟨rfl, g, hi⟩
    obtain ⟨ds, hds⟩ := Option.isSome_iff_exists.mp hi
    obtain ⟨a, xs, rfl, hq, hda⟩ := seqOf hds hd
    obtain ⟨hl, k0, k1⟩ := k ds hds
    walk_at "wp"
    have hq2 := sqA_same g hq
    refine ⟨xs, (sqA_or hq2).symm, ?_⟩
    exact mk_run (dps_same g _ _ hda) (by rw [dpAll_len hda]; exact hl) (fun e => (k0 e).same g) fun e => (k1 e).same g
end
end YY

set_option maxRecDepth 100000
set_option maxHeartbeats 4000000
namespace YY
open PySem PySem.Spec PyProof.Rows L2 XX
local macro_rules | `(tactic| walk_at "wp") => `(tactic| simp only [tPar3, rIndex, tAug, rExt2, tSeq, tNext, tAsg, tPar, gName, tCB, tCons, tNil, tVar, tC, tOp, tUn, rI, rI0, rU, tLst, tTup, tFor_eq, iRng1, iRng2, iList, iTup, tRet, tRetN, tDrop, tIfS, tTest, tB, tAnd, tOr, tNot, tIf, tAndV, tOrV, tNotV, tCall, tBM, tBM0, rIxL, rIxT, rAppend, tLc_eq, gSub, rSetL, rEq, rNe, rMulS, rIxS, tRevT, gTup, gCons, gNil, wipe, tYes, LcEnd, tDisp, tPairs, tChain, tSl, tPart, tNoPart, rSlT, rSlL, rCatT, rCat, rRep, rIsD, V.ty.injEq, iZipB, tDNewK, tXf, wMA, wAs, rLenK, tLenSetS, rReprE, tVeI, tOst, tErr, tMkO, sFld, tFld, rIsE2, tMakeS, rListStr, tDNotIn, tDIn, tDGet, rSetD, gSub, iEnumA, rIxD, iStr, rIn, rEqI, rLenI, tIxI, rSetI, rSortedSet, rEqK, rEqV, tCallS, tDc_eq, tLc2_eq, tMeth, tMethX, tSMeth, tMakeV, tMakeVS, tMakeRS, WE, tOpI, tOpR, tMulD, rRepA, rReprI, rCatA, StX.tMakeR, StX.tStar, tLock, tLockE, iItems, iKeys,
  cxOf_K, cxOf_noxK, L2.start, List.map_cons, List.map_nil, List.length_cons, List.length_nil, Nat.reduceAdd, Nat.reduceSub, List.replicate_succ, List.replicate_zero, List.replicate, List.cons_append, List.nil_append, List.getElem?_cons_zero, List.getElem?_cons_succ, List.set_cons_zero, List.set_cons_succ, List.append_nil,
  Option.some.injEq, V.int.injEq, V.ref.injEq, V.bl.injEq, V.str.injEq, List.cons.injEq, and_true, true_and, exists_eq_left', exists_eq_left, exists_and_left, exists_and_right, exists_const, bool_ite_true, bool_ite_false, dec_ite, ndec_ite, reduceCtorEq, false_or, or_false, false_and, and_false, decide_eq_true_eq, and_assoc, reduceIte, ite_true, ite_false, Int.zero_add])

/-! ### ==, len, repr, [] of Data -/
theorem eqvAll_ints : ∀ ns ms : List Int, PyData.eqvAll (ns.map PyData.int) (ms.map PyData.int) = decide (ns = ms)
  | [], [] => rfl
  | [], _ :: _ => rfl
  | _ :: _, [] => rfl
  | n :: ns, m :: ms => by
    have e : PyData.eqvAll ((n :: ns).map PyData.int) ((m :: ms).map PyData.int) = (PyData.eqv (.int n) (.int m) && PyData.eqvAll (ns.map PyData.int) (ms.map PyData.int)) := rfl
    rw [e, eqvAll_ints ns ms]
    have e2 : PyData.eqv (.int n) (.int m) = decide (n = m) := by
      show (n == m) = _
      by_cases h : n = m
      · simp [h]
      · simp [h]
    rw [e2]
    by_cases h : n = m
    · simp [h]
    · simp [h]
theorem eqv_intsT (ns ms : List Int) : PyData.eqv (.tuple (ns.map PyData.int)) (.tuple (ms.map PyData.int)) = decide (ns = ms) := eqvAll_ints ns ms
theorem shaped_intsT (ns : List Int) : SeqAt.shaped (.tuple (ns.map PyData.int)) = true := shaped_ints ns
theorem dps_intD {K : PySem.W.Frag} {H : Hp} : ∀ ns : List Int, DpAll K H (ns.map V.int) (ns.map PyData.int)
  | [] => .nil
  | n :: ns => .cons (.int n) (dps_intD ns)
section
variable {P : Program} {w : World} {K : PySem.W.Frag} {mg : Str → Option Value} {base : Heap}
def spEqD (K : PySem.W.Frag) (C : Addr) : Sp := fun vs H Q _ => ∃ (x : Addr) (y : V) (ns : List Int), vs = [.ref x, y] ∧ DatAt K C H x ns ∧
  ((∃ (z : Addr) (ms : List Int), y = .ref z ∧ DatAt K C H z ms ∧ Q (.bl (decide (ns = ms))) H) ∨ (∃ (t : Addr) (xs : List V), y = .ref t ∧ SqT K H t xs ∧ Q (.bl false) H))
theorem scEqD : FnScope ["self", "other"] ["self", "other"] (defScope sEqD) := ⟨rfl, rfl, rfl, by decide +kernel, rfl, by decide +kernel, by decide +kernel⟩
theorem c_eqD {C : Addr} (D : DefM K C "__eq__" "Data.__eq__" sEqD ["self", "other"]) (T : Bl2 mg) (dc : DatC K C) (gD : mg "Data" = some (.ref C)) (ic : IsC K C) (nd : NoD K C) : MtC P w K mg base CX0 1 C "__eq__" ["self", "other"] (spEqD K C) := by
  refine D.ok scEqD (fun vs H Q E h => ?_) (fun f cdv A outer s H vs Q E hr h => ?_)
  · obtain ⟨x, y, g, rfl, _⟩ := h
    rfl
  · obtain ⟨x, y, ns, rfl, ⟨dx, t, hx, ht⟩, k⟩ := h
    have sc := scEqD
    refine ⟨_, (pss_one (ps_ret (pe_and (pe_callB call_isi (by rfl) T.n_isinstance (by decide +kernel) (pa_cons (pv 1) (pa_cons (pe_glob (v := .ref C) rfl gD rfl) pa_nil))) (pe_one (pe_cmpR (op_eqD hr.units) (pe_fld (pv 0) rfl) (pe_fld (pv 1) rfl) (nomark _)))))), ?_⟩
    walk_at "wp"
    rcases k with ⟨z, ms, rfl, ⟨dz, t2, hz, ht2⟩, k⟩ | ⟨t2, xs, rfl, h2, k⟩
    · refine ⟨_, _, _, _, true, rfl, .own C, .base (.ins hz dc.cls ic.at_ ic.sp ic.tk ic.mro), kit_self K C, true, rfl, ?_⟩
      rw [if_pos rfl]
      refine ⟨C, dx, _, hx, dc.cls, dc.n1, _, rfl, z, rfl, C, dz, _, hz, dc.cls, dc.n1, _, rfl, _, _, .tup ht (dps_intD ns), .tup ht2 (dps_intD ms), shaped_intsT ns, shaped_intsT ms, ?_⟩
      rw [eqv_intsT]
      exact k
    · refine ⟨_, _, _, _, false, rfl, .own C, tyx_tup h2, nd.tup, false, rfl, ?_⟩
      rw [if_neg Bool.false_ne_true]
      exact k
def spLenD (K : PySem.W.Frag) (C : Addr) : Sp := fun vs H Q _ => ∃ (x : Addr) (ns : List Int), vs = [.ref x] ∧ DatAt K C H x ns ∧ Q (.int (ns.length : Nat)) H
theorem scLenD : FnScope ["self"] ["self"] (defScope sLenD) := ⟨rfl, rfl, rfl, by decide +kernel, rfl, by decide +kernel, by decide +kernel⟩
theorem c_lenD {C : Addr} (D : DefM K C "__len__" "Data.__len__" sLenD ["self"]) (T : Bl2 mg) (dc : DatC K C) : MtC P w K mg base CX0 1 C "__len__" ["self"] (spLenD K C) := by
  refine D.ok scLenD (fun vs H Q E h => ?_) (fun f cdv A outer s H vs Q E hr h => ?_)
  · obtain ⟨x, g, rfl, _⟩ := h
    rfl
  · obtain ⟨x, ns, rfl, ⟨dx, t, hx, ht⟩, k⟩ := h
    have sc := scLenD
    refine ⟨_, (pss_one (ps_ret (pe_callB call_len_seq (by rfl) T.n_len (by decide +kernel) (pa_cons (pe_fld (pv 0) rfl) pa_nil)))), ?_⟩
    walk_at "wp"
    refine ⟨C, dx, _, hx, dc.cls, dc.n1, _, rfl, t, rfl, _, .inr ht, ?_⟩
    rw [List.length_map]
    exact k
/-! ### repr -/
end
end YY

set_option maxRecDepth 100000
set_option maxHeartbeats 4000000
namespace YY
open PySem PySem.Spec PyProof.Rows L2 XX
local macro_rules | `(tactic| walk_at "wp") => `(tactic| simp only [tPar3, rIndex, tAug, rExt2, tSeq, tNext, tAsg, tPar, gName, tCB, tCons, tNil, tVar, tC, tOp, tUn, rI, rI0, rU, tLst, tTup, tFor_eq, iRng1, iRng2, iList, iTup, tRet, tRetN, tDrop, tIfS, tTest, tB, tAnd, tOr, tNot, tIf, tAndV, tOrV, tNotV, tCall, tBM, tBM0, rIxL, rIxT, rAppend, tLc_eq, gSub, rSetL, rEq, rNe, rMulS, rIxS, tRevT, gTup, gCons, gNil, wipe, tYes, LcEnd, tDisp, tPairs, tChain, tSl, tPart, tNoPart, rSlT, rSlL, rCatT, rCat, rRep, rIsD, V.ty.injEq, iZipB, tDNewK, tXf, wMA, wAs, rLenK, tLenSetS, rReprE, tVeI, tOst, tErr, tMkO, sFld, tFld, rIsE2, tMakeS, rListStr, tDNotIn, tDIn, tDGet, rSetD, gSub, iEnumA, rIxD, iStr, rIn, rEqI, rLenI, tIxI, rSetI, rSortedSet, rEqK, rEqV, tCallS, tDc_eq, tLc2_eq, tMeth, tMethX, tSMeth, tMakeV, tMakeVS, tMakeRS, WE, tOpI, tOpR, tMulD, rRepA, rReprI, rCatA, StX.tMakeR, StX.tStar, tLock, tLockE, iItems, iKeys,
  cxOf_K, cxOf_noxK, L2.start, List.map_cons, List.map_nil, List.length_cons, List.length_nil, Nat.reduceAdd, Nat.reduceSub, List.replicate_succ, List.replicate_zero, List.replicate, List.cons_append, List.nil_append, List.getElem?_cons_zero, List.getElem?_cons_succ, List.set_cons_zero, List.set_cons_succ, List.append_nil,
  Option.some.injEq, V.int.injEq, V.ref.injEq, V.bl.injEq, V.str.injEq, List.cons.injEq, and_true, true_and, exists_eq_left', exists_eq_left, exists_and_left, exists_and_right, exists_const, bool_ite_true, bool_ite_false, dec_ite, ndec_ite, reduceCtorEq, false_or, or_false, false_and, and_false, decide_eq_true_eq, and_assoc, reduceIte, ite_true, ite_false, Int.zero_add])

/-! ### +, * -/
def valI (ns : List Int) : Prop := ns.length ≤ 60 ∧ ∀ n ∈ ns, 0 ≤ n ∧ n ≤ 2
theorem valI_btw {ns : List Int} (h : ∀ n ∈ ns, 0 ≤ n ∧ n ≤ 2) : ((ns.map PyData.int).all fun d => btw d 0 2) = true := by
  rw [List.all_eq_true]
  intro d hd
  obtain ⟨n, hn, rfl⟩ := List.mem_map.mp hd
  have := h n hn
  show (decide (0 ≤ n) && decide (n ≤ 2)) = true
  rw [decide_eq_true this.1, decide_eq_true this.2]
  rfl
theorem valsB_ints {ns : List Int} (hl : ns.length ≤ 60) (h : ∀ n ∈ ns, 0 ≤ n ∧ n ≤ 2) : valsB (ns.map PyData.int) = true := by
  unfold valsB
  rw [valI_btw h, List.length_map, decide_eq_true hl]
  rfl
theorem map_intOf (ns : List Int) : (ns.map PyData.int).map intOf = ns := by
  rw [List.map_map]
  exact List.map_id'' (fun _ => rfl) _
section
variable {P : Program} {w : World} {K : PySem.W.Frag} {mg : Str → Option Value} {base : Heap}
/-! ### * -/
def spMulD (K : PySem.W.Frag) (C cB cN : Addr) : Sp := fun vs H Q E => ∃ (x : Addr) (ns : List Int) (v : V) (d : PyData), vs = [.ref x, v] ∧ DatAt K C H x ns ∧ valI ns ∧ Dp K H v d ∧ (btw d 0 60 = false → raisesD K cN d H E) ∧
  (btw d 0 60 = true → (¬ ns.length * (intOf d).toNat ≤ 60 → raisesD K cB d H E) ∧ (ns.length * (intOf d).toNat ≤ 60 → dataQ K C (trimZ (List.replicate (intOf d).toNat ns).flatten) H Q))
theorem scMulD : FnScope ["self", "other", "values"] ["self", "other"] (defScope sMulD) := ⟨rfl, rfl, rfl, by decide +kernel, rfl, by decide +kernel, by decide +kernel⟩
theorem rep_mem {ns : List Int} {k : Nat} {n : Int} (h : n ∈ (List.replicate k ns).flatten) : n ∈ ns := by
  obtain ⟨l, hl, hn⟩ := List.mem_flatten.mp h
  rw [(List.mem_replicate.mp hl).2] at hn
  exact hn
theorem rep_len (ns : List Int) (k : Nat) : (List.replicate k ns).flatten.length = ns.length * k := by
  rw [List.length_flatten, List.map_replicate, List.sum_replicate_nat, Nat.mul_comm]
theorem rep_map (ns : List Int) (k : Nat) : (List.replicate k (ns.map V.int)).flatten = ((List.replicate k ns).flatten).map V.int := by
  rw [List.map_flatten, List.map_replicate]
theorem c_mulD {C cB cN fI : Addr} {fdI : FuncData} {tk : Tok} (D : DefM K C "__mul__" "Data.__mul__" sMulD ["self", "other"]) (T : Bl2 mg) (M : DatM P w K mg base C cB) (EB : ErrC K mg "BadData" cB fI) (EN : ErrC K mg "BadNumber" cN fI) (gM : mg "MOST_VALUES" = some (.int 60 tk))
    (cI : FnOk P w K mg base CX0 1 fI fdI ["self", "value"] (spErr K)) (hbI : Binds K fdI ["self", "value"] []) (cB2 : FnC P w K mg base CX0 2 "is_between" ["value", "least", "most"] (spIsBetween K)) : MtC P w K mg base (L2.CX P w) 6 C "__mul__" ["self", "other"] (spMulD K C cB cN) := by
  refine D.okX scMulD (fun vs H Q E h => ?_) (fun f cdv A outer s H vs Q E hr h => ?_)
  · obtain ⟨x, ns, v, d, rfl, _⟩ := h
    rfl
  · obtain ⟨x, ns, v, d, rfl, ⟨dx, t, hx, ht⟩, hvn, hd, k0, k1⟩ := h
    obtain ⟨fD, mk, FD⟩ := M.make
    have dc := M.dc
    have sc := scMulD
    have hr2 : Room 2 _ := hr.mono (by decide)
    refine ⟨_, (pss_cut (ps_if (pt_not (pt_val (pe_c cB2 hr2 rfl (pa_cons (pv 1) (pa_cons pe_int (pa_cons (pe_glob (v := .int 60) rfl gM ⟨_, rfl⟩) pa_nil)))))) (pss_one (ps_err EN cI hbI hr2 rfl (takes_of rfl rfl rfl rfl) (pv 1) rfl)) pss_nil)
      (pss_cut (ps_set (i := 2) sc.nd rfl (Or.inl rfl) (pe_op op_repA (pe_fld (pv 0) rfl) (pv 1)))
      (pss_cut (ps_if (pt_cmpR op_gt (pe_callB call_len_seq (by rfl) T.n_len (by decide +kernel) (pa_cons (pv 2) pa_nil)) (pe_glob (v := .int 60) rfl gM ⟨_, rfl⟩) (nomark _)) (pss_one (ps_err EB cI hbI hr2 rfl (takes_of rfl rfl rfl rfl) (pv 1) rfl)) pss_nil)
      (pss_one (ps_ret (pe_makeVS (D := WE (fun cls d _ H => E cls d H)) mk FD hr (fun σ => passAt (takes_of rfl rfl rfl rfl) σ) rfl M.gD (pv 2))))))), ?_⟩
    refine ⟨fun τ G => τ = [some (.ref x), some v, none] ∧ G = H ∧ btw d 0 60 = true, ?_, ?_⟩
    · walk_at "wp"
      refine ⟨v, d, 0, 60, rfl, hd, _, rfl, ?_⟩
      cases e : btw d 0 60 with
      | false =>
        rw [if_pos (by rfl)]
        exact err_of2 EN.oex EN.no fun d' hd' => k0 e _ d' v (Same.refl _) (.inl hd) hd'
      | true =>
        rw [if_neg (show ¬ (!true) = true from Bool.false_ne_true)]
        exact ⟨rfl, rfl⟩
    rintro τ G ⟨rfl, rfl, hb⟩
    obtain ⟨ke, kk⟩ := k1 hb
    obtain ⟨ed, rfl⟩ := int_btw hb hd
    have hrange : 0 ≤ intOf d ∧ intOf d ≤ 60 := by
      rw [ed] at hb
      have z : (decide (0 ≤ intOf d) && decide (intOf d ≤ 60)) = true := hb
      rw [Bool.and_eq_true, decide_eq_true_eq, decide_eq_true_eq] at z
      exact z
    have hvl := hvn.1
    refine ⟨fun τ G2 => ∃ p, τ = [some (.ref x), some (.int (intOf d)), some (.ref p)] ∧ Same G G2 ∧ SqT K G2 p (((List.replicate (intOf d).toNat ns).flatten).map V.int), ?_, ?_⟩
    · walk_at "wp"
      refine ⟨C, dx, _, hx, dc.cls, dc.n1, _, rfl, t, rfl, _, ht, by omega, by omega, by rw [List.length_map]; omega, fun p G2 e hp => ⟨e, ?_⟩⟩
      rw [← rep_map]
      exact hp
    rintro τ G2 ⟨p, rfl, g, hp⟩
    have hlen : ns.length * (intOf d).toNat ≤ 3600 := Nat.le_trans (Nat.mul_le_mul hvl (show (intOf d).toNat ≤ 60 by omega)) (by decide)
    refine ⟨fun τ G3 => τ = [some (.ref x), some (.int (intOf d)), some (.ref p)] ∧ G3 = G2 ∧ ns.length * (intOf d).toNat ≤ 60, ?_, ?_⟩
    · walk_at "wp"
      refine ⟨_, .inr hp, ?_⟩
      rw [List.length_map, rep_len]
      refine ite2 (fun c => ?_) fun c => by omega
      exact err_of2 EB.oex EB.no fun d' hd' => ke (by omega) _ d' _ g (.inl (dp_same g _ _ hd)) hd'
    rintro τ G3 ⟨rfl, rfl, hl⟩
    walk_at "wp"
    refine ⟨_, .inl hp, ?_⟩
    have hvv : valsB (((List.replicate (intOf d).toNat ns).flatten).map PyData.int) = true := valsB_ints (by rw [rep_len]; exact hl) fun n hn => hvn.2 n (rep_mem hn)
    refine mk_run (dps_intD _) (by rw [List.length_map, rep_len]; omega) (fun z => ?_) fun _ => ?_
    · rw [hvv] at z
      cases z
    · rw [map_intOf]
      exact (kk hl).same g
/-- types beside an own operator -/
structure OpAll (K : PySem.W.Frag) (C : Addr) (op : Operator) : Prop where
  own : OpC K C op
  non : OpT K C op "NoneType"
  bool : OpT K C op "bool"
  int : OpT K C op "int"
  str : OpT K C op "str"
  list : OpT K C op "list"
  tup : OpT K C op "tuple"
  dict : OpT K C op "dict"
theorem OpAll.of {C : Addr} {op : Operator} (o : OpAll K C op) (d : PyData) : OpT K C op (tyOf d) := by
  cases d with
  | none => exact o.non
  | bool b => exact o.bool
  | int i => exact o.int
  | str z => exact o.str
  | list ds => exact o.list
  | tuple ds => exact o.tup
  | dict kvs => exact o.dict
end
end YY

set_option maxRecDepth 100000
set_option maxHeartbeats 4000000
/-! x is not True, x a truth -/
namespace XX
open PySem PySem.Spec PyProof.Rows L2
end XX

set_option maxRecDepth 100000
set_option maxHeartbeats 4000000
/-! an own __repr__ within an except suite, whatever the handled exception bears -/
namespace XX
open PySem PySem.Spec PyProof.Rows L2 L2H
/-- a def that raises nothing, called while something is handled -/
structure FnW (P : Program) (w : World) (K : PySem.W.Frag) (mg : Str → Option Value) (base : Heap) (k : Nat) (f : Addr) (fd : FuncData) (ps : List Str) (sp : Sp) : Prop where
  len : ∀ vs H Q E, sp vs H Q E → vs.length = ps.length
  run : ∀ (A : Around) (outer : List Env) (s : Shared) (H : Hp) (args : Args) (us : List Value) (vs : List V) (Q : VK) (p : Addr × Obj), RoomH k A → PinOk outer H s p → Env0 P w K mg base A outer s H → BindsTo s fd args (ps.zip us) → Vals vs us → sp vs H Q E0 →
    codeAny (model P w) A (.call (.ref f) args) (CR CX0 outer P w H s Q E0) s
section
variable {P : Program} {w : World} {K : PySem.W.Frag} {mg : Str → Option Value} {base : Heap}
end
section
variable {X : Cx} {k : Nat} {f C : Addr} {fd : FuncData} {sp : Sp}
theorem RoomH.in1 {k : Nat} {A : Around} (r : RoomH (k + 1) A) : RoomH k A.in1 :=
  ⟨by have := r.dp; show A.depth + 3 * k + 5 < _; omega, by have := r.un; show A.units + 1 + 16 * k + 200 < _; omega⟩
end
end XX

set_option maxRecDepth 100000
set_option maxHeartbeats 4000000
/-! comprehensions over a tuple while an exception whose context is None is handled -/
namespace XX
open PySem PySem.Spec PyProof.Rows L2 L2H HotX
/-! ### iterators walked while an exception is handled -/
/-- as Turn, but at the end the handled exception is told in the place of a calm context -/
structure TurnW (P : Program) (w : World) (K : PySem.W.Frag) (tg : Expr) (J : It) (fp : List Addr) (it : Addr) (tn : Nat → Heap → Prop) : Prop where
  obj : ∀ n g, tn n g → ∀ y ∈ fp, ∃ o, g.get? y = some o ∧ ∀ v, o.data ≠ .cell v
  keep : ∀ n g g', tn n g → (∀ y ∈ fp, ∀ o, g.get? y = some o → g'.get? y = some o) → tn n g'
  item : ∀ (X : Cx), X.prog = P → X.w = w → X.K = K → ∀ (n : Nat) (pins : List (Addr × Obj)) (s : Shared) (σ : L2.St) (H : Hp) (E : Value → Shared → Prop), Inv X pins σ H s → (∀ y ∈ fp, FpOk X pins H y) → tn n s.heap → J.go n H →
    wpAny (model P w) X.A (pyNext (.ref it)) (fun r s1 => ∃ u, r = some u ∧ wpAny (model P w) X.A (letOwnedTupleGo tg (.ref it) u) (fun _ s2 => ∃ x H', Inv X pins σ H' s2 ∧ RelV x u ∧ J.yld n H x H' ∧ tn (n + 1) s2.heap ∧ ∀ y ∈ fp, H' y = none) E s1) E s
  done : ∀ (X : Cx), X.prog = P → X.w = w → X.K = K → ∀ (n : Nat) (pins : List (Addr × Obj)) (s : Shared) (σ : L2.St) (H : Hp) (E : Value → Shared → Prop) (x1 : Addr), HotAt X.A x1 s.heap → x1 ∉ fp → Inv X pins σ H s → (∀ y ∈ fp, FpOk X pins H y) → tn n s.heap → J.stop n H →
    wpAny (model P w) X.A (pyNext (.ref it)) (fun r s1 => r = none ∧ Inv X pins σ H s1) E s
  self : ∀ (A : Around) (n : Nat) (s : Shared) (Q : Value → Shared → Prop) (E : Value → Shared → Prop), tn n s.heap → Q (.ref it) s → wpAny (model P w) A (pyIter (.ref it)) Q E s
section
variable {X : Cx}
end
end XX

set_option maxRecDepth 100000
set_option maxHeartbeats 4000000
/-! try: .. except (C1, C2) as n: .. -/
namespace XX
open PySem PySem.Spec PyProof.Rows L2
section
variable {X : Cx} {n x1 x2 : Str} {c1 c2 : Value} {i kk : Nat} {body suite : List Stmt} {b₀ : Stmt} {p1 p2 tpos pos' pos : Pos} {tb : WX → TS} {ts : Addr → Value → Option Addr → TS} {Wout : WX}
end
end XX

set_option maxRecDepth 100000
set_option maxHeartbeats 4000000
/-! raising where nothing is handled: the exception's context is None, and is told so (L2N's CX in the place of L2's) -/
namespace XX
open PySem PySem.Spec PyProof.Rows L2 L2H HotX
section
variable {P : Program} {w : World} {K : PySem.W.Frag} {mg : Str → Option Value} {base : Heap}
end
section
variable {X : Cx}
end
inductive HdsN (X : Cx) (n : Str) : List ExceptHandler → List Clause → Prop
  | nil : HdsN X n [] []
  | cons {x : Str} {c : Value} {ts : Addr → Value → Option Addr → TS} {b₀ : Stmt} {suite : List Stmt} {np pos' : Pos} {hds : List ExceptHandler} {l : List Clause} (hc : Names X x c)
      (hsu : ∀ (a : Addr) (oe : Obj) (cls : Value) (d : Option Addr) (pn : List (Addr × Obj)), L2N.Zn cls d oe → (∃ vs, oe.data = .fields vs) → HotC (X.suite a ((a, oe) :: pn)) → PSs (X.suite a ((a, oe) :: pn)) (b₀ :: suite) (ts a cls d)) (r : HdsN X n hds l) :
      HdsN X n (.ExceptHandler (some (.Name x np)) (some n) (b₀ :: suite) pos' :: hds) ((c, ts) :: l)
section
variable {X : Cx} {n : Str} {i : Nat} {body : List Stmt} {h₀ : ExceptHandler} {hds : List ExceptHandler} {l : List Clause} {pos : Pos} {tb : WX → TS} {Wout : WX}
end
section
variable {P : Program} {w : World} {K : PySem.W.Frag} {mg : Str → Option Value} {base : Heap}
end
end XX

set_option maxRecDepth 100000
set_option maxHeartbeats 4000000
/-! repr of a list whose items may be own instances, by their own __repr__ -/
namespace XX
open PySem PySem.Spec PyProof.Rows L2 L2H HotX
open Builtin Builtin.List
section
variable {prog : Program} {w : World} {A : Around} {E : Value → Shared → Prop} {s : Shared} {K : PySem.W.Frag} {x C L f : Addr} {h₀ : Heap} {m : Str → Option Value} {ox : Obj} {od : Option Obj}
end
section
variable {X : Cx} {pins : List (Addr × Obj)} {σ : L2.St}
theorem loop_depth {A : Around} {args : Args} : (A.under (.builtin "list.__repr__.loop" args)).depth = A.depth + 1 := by
  first | rfl | simp [Around.under, Code.weight, Code.isCreation, Code.isGuard, Code.isCaller, Code.frames, Code.isFrame, guardIds]
theorem loop_handled {A : Around} {args : Args} : (A.under (.builtin "list.__repr__.loop" args)).handled = A.handled := by
  first | rfl | simp [Around.under, Code.isFrame]
theorem Room.loop {k : Nat} {A : Around} (r : Room (k + 1) A) (args : Args) : Room k (A.under (.builtin "list.__repr__.loop" args)) :=
  ⟨by rw [loop_handled]; exact r.hd, by have := r.dp; rw [loop_depth]; omega, by have := r.un; rw [units_under_list_loop]; omega⟩
theorem Env0.loop {P : Program} {w : World} {K : PySem.W.Frag} {mg : Str → Option Value} {base : Heap} {A : Around} {outer : List Env} {s : Shared} {H : Hp} (e : Env0 P w K mg base A outer s H) (args : Args) : Env0 P w K mg base (A.under (.builtin "list.__repr__.loop" args)) outer s H :=
  ⟨by first | exact e.frames | (simpa [Around.under, Code.envs, Code.isFrame, pushEnvs] using e.frames), e.mod, e.bs, e.bsz, e.funs, e.frf, e.hok, e.bare⟩
theorem RoomH.loop {k : Nat} {A : Around} (r : RoomH (k + 1) A) (args : Args) : RoomH k (A.under (.builtin "list.__repr__.loop" args)) :=
  ⟨by have := r.dp; rw [loop_depth]; omega, by have := r.un; rw [units_under_list_loop]; omega⟩
end
end XX

set_option maxRecDepth 100000
set_option maxHeartbeats 4000000
/-! x is not True, x of any plain kind -/
namespace XX
open PySem PySem.Spec PyProof.Rows L2
inductive Pln : V → Prop
  | non : Pln .non
  | bl (b : Bool) : Pln (.bl b)
  | int (i : Int) : Pln (.int i)
  | str (z : Str) : Pln (.str z)
end XX

set_option maxRecDepth 100000
set_option maxHeartbeats 4000000
/-! f(e, .., k = v, ..) where f may raise, told by the state at the call -/
namespace XX
open PySem PySem.Spec PyProof.Rows L2
section
variable {X : Cx} {CX : CXT} {k n : Nat} {f : Addr} {fd : FuncData} {ps ks : List Str} {sp : Sp} {E : L2.St → XK} {x : Str} {p pos : Pos} {e : Expr} {es : List Expr} {kws : List Keyword} {t tk : TA} {g : List Value → List Value → List Value} {gV : List V → List V → List V}
end
end XX

set_option maxRecDepth 100000
set_option maxHeartbeats 4000000
/-! repr of a list whose items may be own instances or the empty tuple (XBG anew, the list told to its items) -/
namespace XX
open PySem PySem.Spec PyProof.Rows L2 L2H HotX
open Builtin Builtin.List
section
variable {X : Cx} {pins : List (Addr × Obj)} {σ : L2.St}
end
end XX

set_option maxRecDepth 100000
set_option maxHeartbeats 4000000
namespace XX
open PySem PySem.Spec PyProof.Rows L2
/-! ### defs with *args: the tuple is laid when they are called -/
abbrev SpV := List V → List V → Hp → VK → XK → Prop
structure FnV (P : Program) (w : World) (K : PySem.W.Frag) (mg : Str → Option Value) (base : Heap) (CX : CXT) (k : Nat) (f : Addr) (ps : List Str) (sp : SpV) : Prop where
  lenV : ∀ vs xs H Q E, sp vs xs H Q E → vs.length = ps.length ∧ xs.length ≤ 1000
  runV : ∀ (A : Around) (outer : List Env) (s : Shared) (H : Hp) (us ws : List Value) (vs xs : List V) (Q : VK) (E : XK), Room k A → Env0 P w K mg base A outer s H → Vals vs us → Vals xs ws → sp vs xs H Q E →
    codeAny (model P w) A (.call (.ref f) ⟨us ++ ws, []⟩) (CR CX outer P w H s Q E) s
section
variable {P : Program} {w : World} {K : PySem.W.Frag} {mg : Str → Option Value} {base : Heap}
end
end XX

set_option maxRecDepth 100000
set_option maxHeartbeats 4000000
namespace XX
open PySem PySem.Spec PyProof.Rows L2
section
variable {X : Cx} {CX : CXT} {k : Nat} {C : Addr} {sp : Sp}
/-- x * b, b an instance of C, x an int, a bool, or of a built-in type without number slots -/
def tMulA (K : PySem.W.Frag) (C : Addr) (sp : Sp) (E : L2.St → XK) (ta tb : TE) : TE := fun σ H Q => ta σ H fun x H1 => tb σ H1 fun y H2 => ∃ b dy gs, y = .ref b ∧ H2 b = some (.ins C dy gs) ∧ (((∃ i, x = .int i) ∨ ∃ t, x = .bl t) ∨ ∃ T, TyX K H2 x (.type T) ∧ OpN K .Mult T) ∧ sp [y, x] H2 Q (E σ)
/-! ### the same where K is told -/
end
end XX

set_option maxRecDepth 100000
set_option maxHeartbeats 4000000
namespace PySem.SeqAt
open AutoSeq1 (wpAny_loadPart')
open MeetsSeq MeetsSeq2 MeetsSeq3 SeqRoads2
/-! ### != of lists whose items are equal, one by one -/
section
variable {prog : Program} {w : World} {x y : Addr} {us ws : Array Value} {m1 m2 : Nat} {d1 d2 : Option Addr} {s1 s2 : Array (Option Value)}
def ListNe (prog : Program) (w : World) (x y : Addr) (us ws : Array Value) (m1 m2 : Nat) (d1 d2 : Option Addr) (s1 s2 : Array (Option Value)) (A : Around) (R : Result → Shared → Prop) (s : Shared) : Prop :=
  s.heap.get? x = some ⟨.type "list", d1, .seq us m1, s1⟩ ∧ s.heap.get? y = some ⟨.type "list", d2, .seq ws m2, s2⟩ ∧ (∀ j (a : j < us.size) (b : j < ws.size), EqP prog w A.in1 s us[j] ws[j] true) ∧ R (.ok (.ret (.bool false))) s
theorem neP_loop (hz : us.size = ws.size) (k : Nat) : ∀ i : Nat, us.size - i = k → MeetsIn prog w (Builtin.«list.__eq__.loop» ⟨[.ref x, .ref y, rawInt i, rawInt 3], []⟩) (ListNe prog w x y us ws m1 m2 d1 d2 s1 s2) := by
  induction k with
  | zero =>
    intro i hi A R s h
    obtain ⟨hp, g, d, tk, os⟩ := s
    obtain ⟨hx, hy, he, q⟩ := h
    wp_walk using wpAny_loadPart' hx, wpAny_loadPart' hy
    have e1 : us[((i : Nat) : Int).toNat]? = none := Array.getElem?_eq_none (by rw [Int.toNat_natCast]; omega)
    have e2 : ws[((i : Nat) : Int).toNat]? = none := Array.getElem?_eq_none (by rw [Int.toNat_natCast]; omega)
    rw [e1, e2]
    wp_walk using wpAny_loadPart' hx, wpAny_loadPart' hy
    have e3 : (us.size != ws.size) = false := by rw [hz, bne_self_eq_false]
    show R (.ok (.ret (.bool (us.size != ws.size)))) _
    rw [e3]
    exact q
  | succ k ih =>
    intro i hi A R s h
    obtain ⟨hp, g, d, tk, os⟩ := s
    obtain ⟨hx, hy, he, q⟩ := h
    wp_walk using wpAny_loadPart' hx, wpAny_loadPart' hy
    have l1 : i < us.size := by omega
    have l2 : i < ws.size := by omega
    have e1 : us[((i : Nat) : Int).toNat]? = some us[i] := by rw [Int.toNat_natCast]; exact Array.getElem?_eq_getElem l1
    have e2 : ws[((i : Nat) : Int).toNat]? = some ws[i] := by rw [Int.toNat_natCast]; exact Array.getElem?_eq_getElem l2
    rw [e1, e2]
    refine wpAny_bind (he i l1 l2 _ _ ?_)
    wp_walk
    have e3 : ((i : Int) + 1) = ((i + 1 : Nat) : Int) := rfl
    rw [e3]
    refine ⟨plainId_quiet plain_eq_loop _, codeAny_builtin entry_eq_loop ?_⟩
    rw [Around.under_plainId plain_eq_loop _]
    exact ih (i + 1) (by omega) A R _ ⟨hx, hy, he, q⟩
theorem neP_list (hz : us.size = ws.size) : MeetsIn prog w (Builtin.«list.__ne__» ⟨[.ref x, .ref y], []⟩) (ListNe prog w x y us ws m1 m2 d1 d2 s1 s2) := by
  intro A R s h
  obtain ⟨hp, g, d, tk, os⟩ := s
  obtain ⟨hx, hy, he, q⟩ := h
  have f3 := AutoSeq1.sub_list_list
  have hne : ¬ (us.size != ws.size) = true := by rw [hz, bne_self_eq_false]; exact Bool.false_ne_true
  wp_walk using wpAny_loadPart' hx, wpAny_loadPart' hy
  refine ⟨plainId_quiet plain_eq_loop _, codeAny_builtin entry_eq_loop ?_⟩
  rw [Around.under_plainId plain_eq_loop _]
  exact neP_loop hz _ 0 rfl A R _ ⟨hx, hy, he, q⟩
end
theorem neP_lists {prog : Program} {w : World} {A : Around} {s : Shared} {x y : Addr} {us ws : Array Value} {E Q : Value → Shared → Prop} (hx : s.heap.IsList x us) (hy : s.heap.IsList y ws) (hz : us.size = ws.size) (hu : A.units < cLine)
    (he : ∀ j (a : j < us.size) (b : j < ws.size), EqP prog w A.in1 s us[j] ws[j] true) (q : Q (.bool false) s) : wpAny (model prog w) A (richCompare .NotEq (.ref x) (.ref y)) Q E s := by
  obtain ⟨⟨c1, d1, k1, s1⟩, o1, t1, m1, e1⟩ := id hx
  obtain ⟨⟨c2, d2, k2, s2⟩, o2, t2, m2, e2⟩ := id hy
  simp only at t1 e1 t2 e2
  subst t1 e1 t2 e2
  have ta : s.TypeIs (.ref x) "list" := ⟨_, o1, rfl⟩
  have tb : s.TypeIs (.ref y) "list" := ⟨_, o2, rfl⟩
  refine wpAny_richCompare_same_room (op := .NotEq) ta tb F.slot_list_ne (call_meetsIn F.slot_list_ne ta F.entry_list_ne (F.args_list_ne_2 _ _) (neP_list hz) ⟨o1, o2, he, ?_⟩) hu
  exact ⟨(fun z => nomatch z), q⟩
end PySem.SeqAt
namespace XX
open PySem PySem.Spec PyProof.Rows L2
/-- != of two lists of equal items of nesting below n: texts, numbers, lists and dicts -/
def rNeV (K : PySem.W.Frag) : R2 := fun x y H Q => ∃ (n : Nat) (a b : Addr) (xs ys : List V), n ≤ 60 ∧ x = .ref a ∧ y = .ref b ∧ SqL K H a xs ∧ SqL K H b ys ∧ Paired (EqV K H n) xs ys ∧ Q (.bl false) H
theorem op_neV {X : Cx} (hu : X.A.units + 64 < cLine) : OpR X (compareOp .NotEq) (rNeV X.K) := by
  intro pins s σ H x y v u Q I rx ry h
  obtain ⟨n, a, b, xs, ys, hn, rfl, rfl, ha, hb, hp, q⟩ := h
  cases (show v = Value.ref a from rx)
  cases (show u = Value.ref b from ry)
  obtain ⟨us, r1, p1, _⟩ := I.list ha
  obtain ⟨ws, r2, p2, _⟩ := I.list hb
  have hz : us.toArray.size = ws.toArray.size := by
    rw [List.size_toArray, List.size_toArray, ← r1.length, ← r2.length]
    exact Paired.length hp
  refine SeqAt.neP_lists p1.isList p2.isList hz (by omega) (fun j h1 h2 => ?_) ⟨.bl false, H, I, rfl, q⟩
  have k := items_run (fun x y v u e r r' => eqV_run I n X.A.in1 (by show X.A.units + 1 + n < cLine; omega) x y v u e r r') hp r1 r2 j (by simpa using h1) (by simpa using h2)
  simpa using k
end XX

set_option maxRecDepth 100000
set_option maxHeartbeats 4000000
namespace XX
open PySem PySem.Spec PyProof.Rows L2
/-! ### in comprehensions: rules that want K told -/
/-- isinstance of data, or of an empty dict -/
def rIsE (T : String) (K : PySem.W.Frag) : List V → Hp → VK → Prop := fun xs H Q => ∃ (x : V) (d : PyData), xs = [x, .ty T] ∧ DpE K H x d ∧ Q (.bl (isTy (tyOf d) T)) H
end XX

set_option maxRecDepth 100000
set_option maxHeartbeats 4000000
namespace XX
open PySem PySem.Spec PyProof.Rows L2
/-! ### an instance made of nothing, by a positional promise -/
section
variable {X : Cx} {CX : CXT} {k : Nat} {f C : Addr} {sp : Sp} {x : Str} {p pos : Pos}
theorem pe_makeRS0 {D : L2.St → XK} (M : Mk X.K C f) (F : FnR X.prog X.w X.K X.mg X.base CX k f sp) (room : Room (k + 1) X.A) (ps : ∀ σ, PassesAt CX X σ (D σ)) (hg : Gl X x) (hm : X.mg x = some (.ref C)) (hd : (x == ("__debug__" : Str)) = false := by decide) : PE X (.Call (.Name x p) [] [] pos) (tMakeRS C sp D tNil) :=
  ⟨fun pn sh J hp R I q => wpAny_Call_Name_kw (ld_glob I hg hm (PySem.W.callWith_K0 I.kIn M.kp (run_makeRS (ws := []) M F room (ps J) I .nil q)) hd)⟩
end
end XX

set_option maxRecDepth 100000
set_option maxHeartbeats 4000000
/-! max(t, default=d) of a tuple of ints -/
namespace XX
open PySem PySem.Spec PyProof.Rows L2
section
variable {X : Cx}
/-- max(t, default=d) -/
def rMaxDef (K : PySem.W.Frag) : List V → List V → Hp → VK → Prop := fun vs zs H Q => ∃ (a : Addr) (ns : List Int) (d : Int), vs = [V.ref a] ∧ SqT K H a (ns.map V.int) ∧ zs = [V.int d] ∧ ∀ m : Int, (ns = [] → m = d) → (ns ≠ [] → m ∈ ns ∧ ∀ y ∈ ns, y ≤ m) → Q (.int m) H
end
end XX

set_option maxRecDepth 100000
set_option maxHeartbeats 4000000
/-! d[t], t a tuple of ints and texts, however it stands -/
namespace XX
open PySem PySem.Spec PyProof.Rows L2
def tDGetT (K : PySem.W.Frag) (td ty : TE) : TE := fun σ H Q => td σ H fun x H1 => ty σ H1 fun y H2 => ∃ (a b : Addr) (kvs : List (List Key × V)) (k : List Key) (v : V), x = .ref a ∧ y = .ref b ∧ H2 a = some (.dT kvs) ∧ SqT K H2 b (k.map kV) ∧ valV kvs k = some v ∧ Q v H2
section
variable {X : Cx} {o i : Expr} {pos : Pos} {td ty : TE}
end
end XX

set_option maxRecDepth 100000
set_option maxHeartbeats 4000000
/-! all arguments by position, for pe_makeS -/
namespace XX
open PySem PySem.Spec PyProof.Rows L2
end XX

set_option maxRecDepth 100000
set_option maxHeartbeats 4000000
/-! a method without arguments that may raise, at the slots -/
namespace XX
open PySem PySem.Spec PyProof.Rows L2
section
variable {X : Cx} {CX : CXT} {k : Nat} {C : Addr} {m : Str} {ps : List Str} {sp : Sp} {E : L2.St → XK} {pos apos : Pos} {o : Expr} {ta : TE} {pl : Sem Bool}
end
end XX

set_option maxRecDepth 100000
set_option maxHeartbeats 4000000
/-! own == and != beside a value of any type that is not under the class -/
namespace XX
open PySem PySem.Spec PyProof.Rows L2
def BesT (K : PySem.W.Frag) (C : Addr) (H : Hp) (y : V) : Prop := (∃ b dy gs, y = .ref b ∧ H b = some (.ins C dy gs)) ∨ (∃ t, TyX K H y t ∧ PySem.W.notFirst K C t = true)
def rEqT (K : PySem.W.Frag) (C : Addr) (sp : Sp) : R2 := fun x y H Q => ∃ a dx fs, x = .ref a ∧ H a = some (.ins C dx fs) ∧ BesT K C H y ∧ sp [x, y] H (fun v H' => ∃ b, v = .bl b ∧ Q (.bl b) H') E0
section
variable {X : Cx} {k : Nat} {C : Addr} {sp : Sp}
end
end XX

set_option maxRecDepth 100000
set_option maxHeartbeats 4000000
/-! set(list of ints): how many it holds -/
namespace XX
open PySem PySem.Spec PyProof.Rows L2
def rSetIM (K : PySem.W.Frag) (w : World) : List V → Hp → VK → Prop := fun vs H Q => ∃ (l : Addr) (ns : List Int), vs = [.ref l] ∧ SqL K H l (ns.map V.int) ∧ ns.length ≤ 1000 ∧ ∀ (p : Addr) (L : List Int), H p = none → L.Nodup → (∀ k, k ∈ L ↔ k ∈ ns) → L.length ≤ ns.length → Q (.ref p) (upd H p (SetO w p (fun z => decide (z ∈ ns)) L.length))
end XX

set_option maxRecDepth 100000
set_option maxHeartbeats 4000000
/-! an expression that is never reached -/
namespace XX
open PySem PySem.Spec PyProof.Rows L2
end XX

set_option maxRecDepth 100000
set_option maxHeartbeats 4000000
/-! two rules for one built-in: either serves -/
namespace XX
open PySem PySem.Spec PyProof.Rows L2
end XX

namespace XX
/-! ### what is come to by steps, without what is barred -/
inductive Rch (ways : Nat → List Nat) (S : List Nat) (B : Nat → Prop) : Nat → Prop
  | base {v : Nat} : v ∈ S → ¬ B v → Rch ways S B v
  | step {u v : Nat} : Rch ways S B u → v ∈ ways u → ¬ B v → Rch ways S B v
theorem Rch.mono {ways : Nat → List Nat} {S : List Nat} {B B' : Nat → Prop} (h : ∀ v, B' v → B v) : ∀ {v : Nat}, Rch ways S B v → Rch ways S B' v
  | _, .base m n => .base m fun z => n (h _ z)
  | _, .step r m n => .step (r.mono h) m fun z => n (h _ z)
/-- a road from the ways of b need not come to b again -/
theorem Rch.again {ways : Nat → List Nat} {b : Nat} : ∀ {v : Nat}, Rch ways (ways b) (fun _ => False) v → Rch ways (ways b) (fun x => x = b) v ∨ v = b
  | v, .base m _ => by
    by_cases e : v = b
    · exact .inr e
    · exact .inl (.base m e)
  | v, .step (u := u) r m _ => by
    by_cases e : v = b
    · exact .inr e
    rcases r.again with h | h
    · exact .inl (.step h m e)
    · subst h
      exact .inl (.base m e)
section
variable {ways : Nat → List Nat} {S : List Nat} {C : List Nat} {E row : Nat}
end
/-! ### the search: what is found, what is left -/
structure Sk (ways : Nat → List Nat) (S bs fs ls : List Nat) : Prop where
  nd : fs.Nodup
  r : ∀ v ∈ fs, Rch ways S (fun x => x ∈ bs) v
  src : ∀ v ∈ ls, v ∈ S ∨ ∃ u, u ∈ fs ∧ v ∈ ways u
  cl : ∀ v, (v ∈ S ∨ ∃ u, u ∈ fs ∧ v ∈ ways u) → v ∈ fs ∨ v ∈ ls ∨ v ∈ bs
theorem Sk.start {ways : Nat → List Nat} {S bs : List Nat} : Sk ways S bs [] S :=
  ⟨List.nodup_nil, fun v h => (List.not_mem_nil h).elim, fun v h => .inl h, fun v h => h.elim (fun h => .inr (.inl h)) fun ⟨u, h, _⟩ => (List.not_mem_nil h).elim⟩
theorem Sk.drop {ways : Nat → List Nat} {S bs fs ls : List Nat} {v : Nat} (k : Sk ways S bs fs (ls ++ [v])) (h : v ∈ fs ∨ v ∈ bs) : Sk ways S bs fs ls := by
  refine ⟨k.nd, k.r, fun w hw => k.src w (List.mem_append_left _ hw), fun w hw => ?_⟩
  rcases k.cl w hw with a | a | a
  · exact .inl a
  · rcases List.mem_append.mp a with a | a
    · exact .inr (.inl a)
    · rw [List.mem_singleton.mp a]
      exact h.elim .inl fun z => .inr (.inr z)
  · exact .inr (.inr a)
theorem Sk.done {ways : Nat → List Nat} {S bs fs : List Nat} (k : Sk ways S bs fs []) : ∀ v, v ∈ fs ↔ Rch ways S (fun x => x ∈ bs) v := fun v => by
  refine ⟨k.r v, fun h => ?_⟩
  induction h with
  | base a n =>
    rcases k.cl _ (.inl a) with b | b | b
    · exact b
    · exact (List.not_mem_nil b).elim
    · exact (n b).elim
  | step a b n ih =>
    rcases k.cl _ (.inr ⟨_, ih, b⟩) with c | c | c
    · exact c
    · exact (List.not_mem_nil c).elim
    · exact (n c).elim
/-! ### the same search, what is barred left out when it is put -/
structure Sb (ways : Nat → List Nat) (S : List Nat) (B : Nat → Bool) (fs ls : List Nat) : Prop where
  nd : fs.Nodup
  r : ∀ v ∈ fs, Rch ways S (fun x => B x = true) v
  src : ∀ v ∈ ls, B v = false ∧ (v ∈ S ∨ ∃ u, u ∈ fs ∧ v ∈ ways u)
  cl : ∀ v, B v = false → (v ∈ S ∨ ∃ u, u ∈ fs ∧ v ∈ ways u) → v ∈ fs ∨ v ∈ ls
theorem Sb.start {ways : Nat → List Nat} {S : List Nat} {B : Nat → Bool} : Sb ways S B [] (S.filter fun v => !B v) := by
  refine ⟨List.nodup_nil, fun v h => (List.not_mem_nil h).elim, fun v h => ?_, fun v hb h => ?_⟩
  · obtain ⟨a, b⟩ := List.mem_filter.mp h
    exact ⟨by simpa using b, .inl a⟩
  · rcases h with h | ⟨u, h, _⟩
    · exact .inr (List.mem_filter.mpr ⟨h, by rw [hb]; rfl⟩)
    · exact (List.not_mem_nil h).elim
theorem Sb.drop {ways : Nat → List Nat} {S fs ls : List Nat} {B : Nat → Bool} {v : Nat} (k : Sb ways S B fs (ls ++ [v])) (h : v ∈ fs) : Sb ways S B fs ls := by
  refine ⟨k.nd, k.r, fun w hw => k.src w (List.mem_append_left _ hw), fun w hb hw => ?_⟩
  rcases k.cl w hb hw with a | a
  · exact .inl a
  · rcases List.mem_append.mp a with a | a
    · exact .inr a
    · rw [List.mem_singleton.mp a]
      exact .inl h
theorem Sb.done {ways : Nat → List Nat} {S fs : List Nat} {B : Nat → Bool} (k : Sb ways S B fs []) : ∀ v, v ∈ fs ↔ Rch ways S (fun x => B x = true) v := fun v => by
  refine ⟨k.r v, fun h => ?_⟩
  induction h with
  | base a n =>
    rcases k.cl _ (Bool.eq_false_iff.mpr n) (.inl a) with b | b
    · exact b
    · exact (List.not_mem_nil b).elim
  | step a b n ih =>
    rcases k.cl _ (Bool.eq_false_iff.mpr n) (.inr ⟨_, ih, b⟩) with c | c
    · exact c
    · exact (List.not_mem_nil c).elim
end XX

set_option maxRecDepth 100000
set_option maxHeartbeats 4000000
namespace PySem.SeqAt
/-! ### what is no number is in no range -/
end PySem.SeqAt
namespace XX
open PySem PySem.Spec PyProof.Rows L2
def inRg (lo hi : Int) : V → Bool
  | .int i => decide (lo ≤ i) && decide (i < hi)
  | _ => false
def noNum : V → Bool
  | .non => true
  | .str _ => true
  | .int _ => true
  | _ => false
/-- v in a range: a number, None, a text -/
def rInRg : R2 := fun x y H Q => ∃ a lo hi, noNum x = true ∧ y = V.ref a ∧ H a = some (.rng lo hi) ∧ Q (.bl (inRg lo hi x)) H
/-- range(n) as a value -/
def rRange1 : List V → Hp → VK → Prop := fun vs H Q => ∃ j, vs = [V.int j] ∧ ∀ p, H p = none → Q (.ref p) (upd H p (.rng 0 j))
end XX

namespace XX
/-! ### roads: walks that are kept -/
inductive Wk (ways : Nat → List Nat) (S : List Nat) : List Nat → Nat → Prop
  | one {v : Nat} : v ∈ S → Wk ways S [v] v
  | snoc {r : List Nat} {u v : Nat} : Wk ways S r u → v ∈ ways u → Wk ways S (r ++ [v]) v
section
variable {ways : Nat → List Nat} {S : List Nat}
theorem Wk.last {r : List Nat} {v : Nat} : Wk ways S r v → ∃ q, r = q ++ [v]
  | .one _ => ⟨[], rfl⟩
  | .snoc _ _ => ⟨_, rfl⟩
theorem Wk.ne {r : List Nat} {v : Nat} (h : Wk ways S r v) : r ≠ [] := by
  obtain ⟨q, rfl⟩ := h.last
  exact fun e => by simp at e
theorem Wk.rch {B : Nat → Prop} : ∀ {r : List Nat} {v : Nat}, Wk ways S r v → (∀ x ∈ r, ¬ B x) → Rch ways S B v
  | _, _, .one m, h => .base m (h _ (List.mem_singleton.mpr rfl))
  | _, _, .snoc w m, h => .step (w.rch fun x hx => h x (List.mem_append_left _ hx)) m (h _ (List.mem_append_right _ (List.mem_singleton.mpr rfl)))
theorem Wk.all {r : List Nat} {v : Nat} (h : Wk ways S r v) : Rch ways S (fun _ => False) v := h.rch fun _ _ z => z
/-- the part of a road up to one of its places is a road -/
theorem Wk.part : ∀ {r : List Nat} {v : Nat}, Wk ways S r v → ∀ {j o : Nat}, r[j]? = some o → Wk ways S (r.take (j + 1)) o
  | _, v, .one m, j, o, h => by
    have hj := (List.getElem?_eq_some_iff.mp h).1
    rw [List.length_singleton] at hj
    have e : j = 0 := by omega
    subst e
    cases h
    exact .one m
  | _, v, .snoc (r := r) w m, j, o, h => by
    by_cases hj : j < r.length
    · rw [List.getElem?_append_left hj] at h
      rw [List.take_append_of_le_length (by omega)]
      exact w.part h
    · have h2 := (List.getElem?_eq_some_iff.mp h).1
      rw [List.length_append, List.length_singleton] at h2
      have e : j = r.length := by omega
      subst e
      rw [List.getElem?_append_right (Nat.le_refl _), Nat.sub_self] at h
      cases h
      rw [List.take_of_length_le (by rw [List.length_append, List.length_singleton]; omega)]
      exact .snoc w m
/-- what no way around leads to the end is on every road to the end -/
theorem Wk.mem {r : List Nat} {E c : Nat} (h : Wk ways S r E) (hc : ¬ Rch ways S (fun x => x = c) E) : c ∈ r := by
  by_cases e : c ∈ r
  · exact e
  · exact absurd (h.rch (B := fun x => x = c) fun x hx z => e (z ▸ hx)) hc
/-- on the way to the end one of the common rows is the first that is come to -/
theorem Rch.meet {C : List Nat} : ∀ {v : Nat}, Rch ways S (fun _ => False) v → Rch ways S (fun x => x ∈ C) v ∨ ∃ r, r ∈ C ∧ Rch ways S (fun x => x ∈ C ∧ x ≠ r) r
  | v, .base m _ => by
    by_cases e : v ∈ C
    · exact .inr ⟨v, e, .base m fun z => z.2 rfl⟩
    · exact .inl (.base m e)
  | v, .step r m _ => by
    rcases Rch.meet (C := C) r with h | h
    · by_cases e : v ∈ C
      · exact .inr ⟨v, e, .step (h.mono fun x z => z.1) m fun z => z.2 rfl⟩
      · exact .inl (.step h m e)
    · exact .inr h
end
end XX

namespace XX
theorem Sb.eqv {ways : Nat → List Nat} {S fs ls ls' : List Nat} {B : Nat → Bool} (h : ∀ v, v ∈ ls ↔ v ∈ ls') (k : Sb ways S B fs ls) : Sb ways S B fs ls' :=
  ⟨k.nd, k.r, fun v hv => k.src v ((h v).mpr hv), fun v hb hv => (k.cl v hb hv).imp id fun z => (h v).mp z⟩
theorem Sb.here {ways : Nat → List Nat} {S fs ls : List Nat} {B : Nat → Bool} {v : Nat} (k : Sb ways S B fs ls) (h : v ∈ ls) : Rch ways S (fun x => B x = true) v := by
  obtain ⟨hb, hs⟩ := k.src v h
  have hn : ¬ B v = true := by
    rw [hb]
    exact Bool.false_ne_true
  rcases hs with a | ⟨u, a, b⟩
  · exact .base a hn
  · exact .step (k.r u a) b hn
end XX


set_option maxRecDepth 100000
set_option maxHeartbeats 4000000
namespace YY
open PySem PySem.Spec PyProof.Rows L2 XX
local macro_rules | `(tactic| walk_at "wp") => `(tactic| simp only [Int.zero_add, L2.start, LcEnd, List.append_nil, List.cons.injEq, List.cons_append, List.getElem?_cons_succ, List.getElem?_cons_zero, List.length_cons, List.length_nil, List.map_cons, List.map_nil, List.nil_append, List.replicate, List.replicate_succ, List.replicate_zero, List.set_cons_succ, List.set_cons_zero, Nat.reduceAdd, Nat.reduceSub, Option.some.injEq, StX.tMakeR, StX.tStar, V.bl.injEq, V.int.injEq, V.ref.injEq, V.str.injEq, V.ty.injEq, WE, and_assoc, and_false, and_true, bool_ite_false, bool_ite_true, cxOf_K, cxOf_noxK, dec_ite, decide_eq_true_eq, exists_and_left, exists_and_right, exists_const, exists_eq_left, exists_eq_left', false_and, false_or, gCons, gName, gNil, gSub, gTup, iEnumA, iItems, iKeys, iList, iRng1, iRng2, iStr, iTup, iZipB, ite_false, ite_true, ndec_ite, or_false, rAppend, rCat, rCatT, rEq, rEqI, rEqK, rEqV, rExt2, rI, rI0, rIn, rInRg, rIndex, rIsD, rIsE, rIsE2, rIxD, rIxL, rIxS, rIxT, rLenI, rLenK, rListStr, rMax, rMaxDef, rSetIM, rEqT, sFldAug, rAdd, rMin, rMulS, rNe, rNeDA, rNeV, rRange1, rRep, rRepA, rReprE, rReprI, rSetD, rSetI, rSetL, rSlL, rSlT, rSortedSet, rU, reduceCtorEq, reduceIte, sFld, tAnd, tAndV, tAsg, tAug, tB, tBM, tBM0, tC, tCB, tCKw, tDGetT, tCall, tCallS, tChain, tCons, tDGet, tDIn, tDNewK, tDNotIn, tDcT_eq, tDc_eq, tDisp, tDrop, tErr, tFld, tFor_eq, tIf, tIfS, tIxI, tLc2_eq, tLc_eq, tLenSetS, tLock, tLockE, tLst, tLstRg, tM1, tMakeRS, tMakeS, tMakeV, tMakeVS, tMeth, tMethX, tMkO, tMulA, tMulD, tNext, tNil, tNoPart, tNot, tNotV, tOp, tOpI, tOpR, tOr, tOrV, tOst, tPairs, tPar, tPar3, tPart, tRet, tRetN, tRevT, tRg2, tSMeth, tSeq, tSl, tTest, tTup, tUn, tVar, tVeI, tXf, tYes, true_and, wAs, wMA, wipe, tJs, tFmt])
/-! ### texts of programs -/
abbrev sFormatP : Stmt := topS 37
abbrev sLineOf : Stmt := topS 38
theorem cut_hide {t1 t2 : TS} {D : Ends} {σ : L2.St} {H : Hp} (M : L2.St → Hp → Prop) (h1 : ∀ M' : L2.St → Hp → Prop, (∀ τ G, M τ G → M' τ G) → t1 { D with nx := M' } σ H) (h2 : ∀ τ G, M τ G → t2 D τ G) : tCut t1 t2 D σ H := ⟨M, h1 M fun _ _ h => h, h2⟩
theorem paired_len' {α β : Type} {R : α → β → Prop} : ∀ {xs : List α} {ys : List β}, Paired R xs ys → xs.length = ys.length
  | _, _, .nil => rfl
  | _, _, .cons _ h => congrArg (· + 1) (paired_len' h)
theorem pair_snoc {α β : Type} {R : α → β → Prop} {a : α} {b : β} : ∀ {as : List α} {bs : List β}, Paired R as bs → R a b → Paired R (as ++ [a]) (bs ++ [b])
  | _, _, .nil, h => .cons h .nil
  | _, _, .cons g r, h => .cons g (pair_snoc r h)
theorem paired_get2 {α β : Type} {R : α → β → Prop} : ∀ {as : List α} {bs : List β}, Paired R as bs → ∀ {i : Nat} {a : α}, as[i]? = some a → ∃ b, bs[i]? = some b ∧ R a b
  | _, _, .nil, _, _, e => by simp at e
  | _, _, .cons h r, 0, _, e => by
    cases e
    exact ⟨_, rfl, h⟩
  | _, _, .cons h r, i + 1, _, e => paired_get2 r e
/-- what a part of a row reads as -/
def partT : PyData → Str
  | .str z => z
  | .int i => Str.ofString (toString i)
  | _ => "-"
def IsPt (d : PyData) : Prop := d = .none ∨ (∃ z, d = .str z ∧ z.length ≤ 1000) ∨ ∃ n : Nat, d = .int (n : Nat) ∧ n ≤ 1000
/-- a row's line -/
def lineT (ds : List PyData) : Str := Str.empty ++ Txt.join " " (ds.map partT) ++ "\n"
theorem intT_len {n : Nat} (h : n ≤ 1000) : (Str.ofString (toString ((n : Nat) : Int))).length ≤ 4 := by
  rw [TL.len_tl, TL.tl_num]
  exact TL.numL_len (by decide) (by omega)
theorem partT_len {d : PyData} (h : IsPt d) : (partT d).length ≤ 1000 := by
  rcases h with rfl | ⟨z, rfl, h⟩ | ⟨n, rfl, h⟩
  · show 1 ≤ 1000
    decide
  · exact h
  · exact Nat.le_trans (intT_len h) (by decide)
theorem sum_le' {α : Type} {f : α → Nat} {b : Nat} : ∀ {l : List α}, (∀ x ∈ l, f x ≤ b) → (l.map f).sum ≤ l.length * b
  | [], _ => by simp
  | x :: l, h => by
    rw [List.map_cons, List.sum_cons, List.length_cons, Nat.succ_mul]
    have h1 := h x List.mem_cons_self
    have h2 := sum_le' (l := l) fun y hy => h y (List.mem_cons_of_mem _ hy)
    omega
theorem dps_get {K : PySem.W.Frag} {H : Hp} : ∀ {vs : List V} {ds : List PyData}, DpAll K H vs ds → ∀ {i : Nat} {v : V}, vs[i]? = some v → ∃ d, ds[i]? = some d ∧ Dp K H v d
  | _, _, .nil, i, v, e => by simp at e
  | _, _, .cons h1 h2, 0, v, e => by
    cases e
    exact ⟨_, rfl, h1⟩
  | _, _, .cons h1 h2, i + 1, v, e => by
    rw [List.getElem?_cons_succ] at e
    obtain ⟨d, hd, hv⟩ := dps_get h2 e
    exact ⟨d, by rw [List.getElem?_cons_succ]; exact hd, hv⟩
theorem joinL_len (S : List Nat) : ∀ ps : List (List Nat), (TL.joinL S ps).length ≤ (ps.map List.length).sum + ps.length * S.length
  | [] => Nat.zero_le _
  | [p] => by
    show p.length ≤ _
    simp
  | p :: q :: r => by
    have e := joinL_len S (q :: r)
    show (p ++ (S ++ TL.joinL S (q :: r))).length ≤ _
    rw [List.length_append, List.length_append, List.map_cons, List.sum_cons, List.length_cons, Nat.succ_mul]
    omega
theorem join_len (y : Str) (ps : List Str) : (Txt.join y ps).length ≤ (ps.map (·.length)).sum + ps.length * y.length := by
  rw [TL.join_eq, TL.len_tl, TL.tl_join]
  refine Nat.le_trans (joinL_len _ _) ?_
  rw [List.map_map, List.length_map, ← TL.len_tl]
  refine Nat.le_of_eq ?_
  congr 2
theorem parts_sum {ds : List PyData} (h : ∀ d ∈ ds, IsPt d) : ((ds.map partT).map (·.length)).sum ≤ ds.length * 1000 := by
  refine Nat.le_trans (sum_le' (b := 1000) fun z hz => ?_) (by rw [List.length_map]; exact Nat.le_refl _)
  obtain ⟨d, hd, rfl⟩ := List.mem_map.1 hz
  exact partT_len (h d hd)
theorem line_len {ds : List PyData} (h : ∀ d ∈ ds, IsPt d) (hl : ds.length ≤ 10) : (lineT ds).length ≤ 10020 := by
  have jl : (Txt.join " " (ds.map partT)).length ≤ 10010 := by
    refine Nat.le_trans (join_len _ _) ?_
    have ps := parts_sum h
    rw [List.length_map]
    show _ + _ * 1 ≤ _
    omega
  unfold lineT
  rw [TL.len_tl, TL.tl_append, TL.tl_append, List.length_append, List.length_append, ← TL.len_tl, ← TL.len_tl, ← TL.len_tl]
  show 0 + _ + 1 ≤ _
  omega
section
variable {P : Program} {w : World} {K : PySem.W.Frag} {mg : Str → Option Value} {base : Heap}
def spLineOf (K : PySem.W.Frag) : Sp := fun vs H Q _ => ∃ (t : Addr) (xs : List V) (ds : List PyData), vs = [.ref t] ∧ SqT K H t xs ∧ DpAll K H xs ds ∧ (∀ d ∈ ds, IsPt d) ∧ ds.length ≤ 1000 ∧ ∀ G, Same H G → Q (.str (lineT ds)) G
theorem scLineOf : FnScope ["parts", "line", "part"] ["parts"] (defScope sLineOf) := ⟨rfl, rfl, rfl, by decide +kernel, rfl, by decide +kernel, by decide +kernel⟩
theorem c_lineOf {tk : Tok} (D : Def K mg "_line_of" sLineOf ["parts"]) (T : Bl2 mg) (n_str : mg "str" = none) (gN : mg "_NOTHING" = some (.str "-" tk)) : FnC P w K mg base CX0 1 "_line_of" ["parts"] (spLineOf K) := by
  refine D.ok scLineOf (fun vs H Q E h => ?_) (fun f' cdv A outer s H vs Q E hr h => ?_)
  · obtain ⟨t, xs, ds, rfl, _⟩ := h
    rfl
  · obtain ⟨t, xs, ds, rfl, ht, hd, hp, hl, k⟩ := h
    have sc := scLineOf
    refine ⟨_, (pss_cut (ps_set (i := 1) sc.nd rfl (Or.inl rfl) (pe_join pe_str (pe_lc (own := [("part", 2)]) (g := gName 2) (tt := tYes) rfl sc.nd (pi_tup (pv 0)) (blkOk_by (N := ["parts", "line", "part"]) (sc := defScope sLineOf) (by decide +kernel)) (fun _ _ _ _ _ => (pg_name (i := 2) sc.nd rfl (Or.inl rfl))) (fun _ _ _ _ _ => pts_nil) (fun _ _ _ _ _ => (pe_ifExp (pt_cmpR op_isN (pv 2) pe_non (nomark _)) (pe_glob (v := .str "-") (by rfl) gN ⟨_, rfl⟩) (pe_callTy (CallR.or call_str_int SkE.call_str_str) (by rfl) n_str (by decide +kernel) (pa_cons (pv 2) pa_nil)))))))
      (pss_one (ps_ret (pe_joined (.cons (pe_fmt (pv 1)) (.cons pe_str .nil)))))), ?_⟩
    refine cut_hide (fun τ G => τ = [some (.ref t), some (.str (Txt.join " " (ds.map partT))), none] ∧ Same H G) (fun M' hM => ?_) ?_
    · walk_at "wp"
      refine ⟨⟨_, rfl⟩, ⟨_, ht⟩, ?_⟩
      have ps := parts_sum hp
      refine lcw_it (walk_tup (xs := xs)) (fun D i F => Same H F ∧ H D = none ∧ F D = some (.lst (((ds.take i).map partT).map V.str))) (fun D hD => ⟨same_new hD, hD, upd_same⟩) (fun D i F _ h => Same.sqT h.1 ht) ?_ ?_
      · rintro D i v F1 F2 hD hi ⟨s1, nD, hF⟩ ⟨rfl, hv⟩
        walk_at "wp"
        obtain ⟨d, hd1, hd2⟩ : ∃ d, ds[i]? = some d ∧ Dp K H v d := dps_get hd hv
        have hlen : i < ds.length := (List.getElem?_eq_some_iff.1 hd1).1
        have hz := sizeLine_eq
        have step : ∀ z : Str, z = partT d → ∃ xs, F2 D = some (.lst xs) ∧ xs.length < sizeLine ∧ Same H (upd F2 D (.lst (xs ++ [V.str z]))) ∧ H D = none ∧ (upd F2 D (.lst (xs ++ [V.str z]))) D = some (.lst (((ds.take (i + 1)).map partT).map V.str)) := fun z e => by
          refine ⟨_, hF, by rw [List.length_map, List.length_map, List.length_take]; omega, same_mut s1 nD, nD, ?_⟩
          rw [upd_same, List.take_add_one, hd1, e]
          simp
        have hp' := hp d (List.mem_of_getElem? hd1)
        rcases hp' with rfl | ⟨z, rfl, hzl⟩ | ⟨n, rfl, hn⟩
        · cases hd2
          exact Eq.mpr (if_pos rfl) (step _ rfl)
        · cases hd2
          exact Eq.mpr (if_neg (fun z => nomatch z)) (.inr ⟨_, rfl, step _ rfl⟩)
        · cases hd2
          exact Eq.mpr (if_neg (fun z => nomatch z)) (.inl ⟨_, rfl, (by
            have : ((n : Nat) : Int).natAbs = n := rfl
            rw [this]
            exact Nat.lt_of_le_of_lt (Nat.log2_le_self n) (by omega)), step _ rfl⟩)
      · rintro D F hD ⟨s1, nD, hF⟩
        have el : xs.length = ds.length := dpAll_len hd
        rw [el, List.take_length] at hF
        exact ⟨D, rfl, ds.map partT, .inl (SqL.of hF), by rw [List.length_map]; show _ + _ * 1 ≤ _; omega, hM _ _ ⟨rfl, s1⟩⟩
    rintro τ G ⟨rfl, s1⟩
    walk_at "wp"
    have hz := sizeLine_eq
    have jl : (Txt.join " " (ds.map partT)).length ≤ 1001000 := by
      refine Nat.le_trans (join_len _ _) ?_
      have ps := parts_sum hp
      rw [List.length_map]
      show _ + _ * 1 ≤ _
      omega
    refine ⟨by omega, ?_, ?_, k _ s1⟩
    · rw [TL.len_tl, TL.tl_append, List.length_append, ← TL.len_tl, ← TL.len_tl]
      show 0 + _ ≤ _
      omega
    · rw [TL.len_tl, TL.tl_append, TL.tl_append, List.length_append, List.length_append, ← TL.len_tl, ← TL.len_tl, ← TL.len_tl]
      show 0 + _ + 1 ≤ _
      omega
def headsD (g : PrD) : List PyData := [.tuple [.str "values", .int g.size], .tuple (.str "registers" :: g.ws.map PyData.str)]
def itemsD : PyData → List PyData
  | .tuple ds => ds
  | _ => []
/-- a program's text -/
def progT (g : PrD) : Str := Txt.join Str.empty ((headsD g ++ g.ds).map fun d => lineT (itemsD d))
/-- all that the text tells of can be told -/
structure PtOk (g : PrD) : Prop where
  rows : ∀ d ∈ g.ds, ∃ ps, d = .tuple ps ∧ (∀ p ∈ ps, IsPt p) ∧ ps.length ≤ 10
  ws : ∀ z ∈ g.ws, z.length ≤ 1000
  size : ∃ n : Nat, g.size = n ∧ n ≤ 1000
  few : g.ds.length ≤ 24
  wsL : g.ws.length ≤ 8
def spFormatP (K : PySem.W.Frag) (CP cP : Addr) : Sp := fun vs H Q E => ∃ v, vs = [v] ∧ ((∃ x g, v = .ref x ∧ ProgAt K CP H x g ∧ PtOk g ∧ ∀ G, Same H G → Q (.str (progT g)) G) ∨ (NoProg K CP H v ∧ raisesV cP v H E))
theorem scFormatP : FnScope ["program", "heads", "parts"] ["program"] (defScope sFormatP) := ⟨rfl, rfl, rfl, by decide +kernel, rfl, by decide +kernel, by decide +kernel⟩
theorem c_formatP {CP cP : Addr} (D : Def K mg "format_program" sFormatP ["program"]) (pc : ProgC K CP) (cA : FnC P w K mg base (L2.CX P w) 3 "ask_program" ["program"] (spAskP K CP cP)) (cL : FnC P w K mg base CX0 1 "_line_of" ["parts"] (spLineOf K)) : FnC P w K mg base (L2.CX P w) 4 "format_program" ["program"] (spFormatP K CP cP) := by
  refine D.okX scFormatP (fun vs H Q E h => ?_) (fun f' cdv A outer s H vs Q E hr h => ?_)
  · obtain ⟨v, rfl, _⟩ := h
    rfl
  · obtain ⟨v, rfl, h⟩ := h
    have sc := scFormatP
    have hr1 : Room 1 _ := hr.mono (by decide)
    refine ⟨_, (pss_cut (ps_expr (pe_cX (E := WE (fun cls d _ H => E cls d H)) cA hr (fun σ => passAt (takes_of rfl rfl rfl rfl) σ) rfl (pa_cons (pv 0) pa_nil)))
      (pss_cut (ps_set (i := 1) sc.nd rfl (Or.inl rfl) (pe_lst (pa_cons (pe_tup (pa_cons pe_str (pa_cons (pe_fldK K rfl (pv 0) rfl) pa_nil))) (pa_cons (pe_tup (pa_cons pe_str (pa_starK K rfl (pe_fldK K rfl (pv 0) rfl) pa_nil))) pa_nil))))
      (pss_one (ps_ret (pe_join pe_str (pe_lc (own := [("parts", 2)]) (g := gName 2) (tt := tYes) rfl sc.nd (pi_list (pe_lst (pa_starK K rfl (pv 1) (pa_starK K rfl (pe_fldK K rfl (pv 0) rfl) pa_nil)))) (blkOk_by (N := ["program", "heads", "parts"]) (sc := defScope sFormatP) (by decide +kernel)) (fun _ _ _ _ _ => (pg_name (i := 2) sc.nd rfl (Or.inl rfl))) (fun _ _ _ _ _ => pts_nil) (fun _ _ _ _ _ => (pe_c cL hr1 rfl (pa_cons (pv 2) pa_nil))))))))), ?_⟩
    rcases h with ⟨x, g, rfl, hx, ok, k⟩ | ⟨hno, hE⟩
    · refine cut_hide (fun τ G => τ = [some (.ref x), none, none] ∧ G = H) (fun M' hM => ?_) ?_
      · walk_at "wp"
        exact ⟨_, rfl, .inl ⟨x, g, rfl, hx, hM _ _ ⟨rfl, rfl⟩⟩⟩
      rintro τ G ⟨rfl, rfl⟩
      obtain ⟨dx, wr, t, plA, chA, hxo, hw, ht, _, _⟩ := id hx
      obtain ⟨rs, htr, hrs⟩ : ∃ rs, SqT K G t rs ∧ DpAll K G rs g.ds := by
        cases ht with
        | tup a b => exact ⟨_, a, b⟩
      refine cut_hide (fun τ G1 => ∃ l ts, τ = [some (.ref x), some (.ref l), none] ∧ Same G G1 ∧ G1 l = some (.lst ts) ∧ DpAll K G1 ts (headsD g)) (fun M' hM => ?_) ?_
      · walk_at "wp"
        refine ⟨CP, dx, _, hxo, pc.cls, pc.n2, _, rfl, by decide, fun p1 n1 => ?_⟩
        have s1 := same_new (o := .tup [V.str "values", V.int g.size]) n1
        have h1 : (upd G p1 (.tup [V.str "values", V.int g.size])) p1 = some (.tup [V.str "values", V.int g.size]) := upd_same
        generalize upd G p1 (.tup [V.str "values", V.int g.size]) = A1 at s1 h1 ⊢
        have hz := sizeLine_eq
        refine ⟨CP, dx, _, s1 _ _ hxo, pc.cls, pc.n1, _, rfl, wr, rfl, _, .inl (Same.sqT s1 hw), (by rw [List.length_map]; have := ok.wsL; omega), fun p2 n2 => ?_⟩
        have s2 := same_new (o := .tup (V.str "registers" :: g.ws.map V.str)) n2
        have h2 : (upd A1 p2 (.tup (V.str "registers" :: g.ws.map V.str))) p2 = some (.tup (V.str "registers" :: g.ws.map V.str)) := upd_same
        generalize upd A1 p2 (.tup (V.str "registers" :: g.ws.map V.str)) = A2 at s2 h2 ⊢
        refine ⟨by decide, fun p3 n3 => hM _ _ ⟨p3, _, rfl, (s1.trans s2).trans (same_new n3), upd_same, ?_⟩⟩
        have s3 := same_new (o := .lst [V.ref p1, V.ref p2]) n3
        exact .cons (.tup (SqT.of ((s2.trans s3) _ _ h1)) (.cons (.str _) (.cons (.int _) .nil))) (.cons (.tup (SqT.of (s3 _ _ h2)) (.cons (.str _) (dpAll_strs _))) .nil)
      rintro τ G1 ⟨l, ts, rfl, s1, hl, hts⟩
      have hz := sizeLine_eq
      have hl2 : ts.length = 2 := dpAll_len hts
      have hlr : rs.length = g.ds.length := dpAll_len hrs
      have few := ok.few
      walk_at "wp"
      refine ⟨⟨_, rfl⟩, ts, .inr (SqL.of hl), CP, dx, _, s1 _ _ hxo, pc.cls, pc.n3, _, rfl, t, rfl, rs, .inl (Same.sqT s1 htr), by rw [List.length_append]; omega, fun p np => ⟨⟨_, SqL.of upd_same⟩, ?_⟩⟩
      have s2 := same_new (o := .lst (ts ++ rs)) np
      have hp : (upd G1 p (.lst (ts ++ rs))) p = some (.lst (ts ++ rs)) := upd_same
      have hall : DpAll K (upd G1 p (.lst (ts ++ rs))) (ts ++ rs) (headsD g ++ g.ds) := dpAll_app (dps_same s2 _ _ hts) (dps_same (s1.trans s2) _ _ hrs)
      generalize upd G1 p (.lst (ts ++ rs)) = A at s2 hp hall ⊢
      have hpt : ∀ d ∈ headsD g ++ g.ds, ∃ ps, d = .tuple ps ∧ (∀ p ∈ ps, IsPt p) ∧ ps.length ≤ 10 := fun d hd => by
        rcases List.mem_append.1 hd with hd | hd
        · simp only [headsD, List.mem_cons, List.not_mem_nil, or_false] at hd
          rcases hd with rfl | rfl
          · obtain ⟨n, e, hn⟩ := ok.size
            refine ⟨_, rfl, fun q hq => ?_, (by show 2 ≤ 10; decide)⟩
            simp only [List.mem_cons, List.not_mem_nil, or_false] at hq
            rcases hq with rfl | rfl
            · exact .inr (.inl ⟨_, rfl, by decide⟩)
            · exact .inr (.inr ⟨n, by rw [e], hn⟩)
          · refine ⟨_, rfl, fun q hq => ?_, by rw [List.length_cons, List.length_map]; have := ok.wsL; omega⟩
            rcases List.mem_cons.1 hq with rfl | hq
            · exact .inr (.inl ⟨_, rfl, by decide⟩)
            · obtain ⟨z, hz', rfl⟩ := List.mem_map.1 hq
              exact .inr (.inl ⟨z, rfl, ok.ws z hz'⟩)
        · exact ok.rows d hd
      refine lcw_it (walk_list (xs := ts ++ rs)) (fun D i F => Same A F ∧ A D = none ∧ F D = some (.lst ((((headsD g ++ g.ds).take i).map fun d => lineT (itemsD d)).map V.str))) (fun D hD => ⟨same_new hD, hD, upd_same⟩) (fun D i F _ h => SqL.of (h.1 _ _ hp)) ?_ ?_
      · rintro D i v F1 F2 hD hi ⟨sF, nD, hF⟩ ⟨rfl, hv⟩
        walk_at "wp"
        obtain ⟨d, hd1, hd2⟩ := dps_get hall hv
        obtain ⟨ps, rfl, hps, hpl⟩ := hpt d (List.mem_of_getElem? hd1)
        have hlen : i < (headsD g ++ g.ds).length := (List.getElem?_eq_some_iff.1 hd1).1
        have hl26 : (headsD g ++ g.ds).length ≤ 26 := by rw [List.length_append]; show 2 + _ ≤ _; omega
        cases hd2 with
        | tup a b =>
          refine ⟨_, _, ps, rfl, Same.sqT sF a, dps_same sF _ _ b, hps, by omega, fun G2 sG => ⟨_, sG _ _ hF, by rw [List.length_map, List.length_map, List.length_take]; omega, same_mut (sF.trans sG) nD, nD, ?_⟩⟩
          rw [upd_same, List.take_add_one, hd1]
          simp [itemsD]
      · rintro D F hD ⟨sF, nD, hF⟩
        have el : (ts ++ rs).length = (headsD g ++ g.ds).length := dpAll_len hall
        rw [el, List.take_length] at hF
        refine ⟨D, rfl, _, .inl (SqL.of hF), ?_, k _ ((s1.trans s2).trans sF)⟩
        have ll : ∀ d ∈ headsD g ++ g.ds, (lineT (itemsD d)).length ≤ 10020 := fun d hd => by
          obtain ⟨ps, rfl, hps, hpl⟩ := hpt d hd
          exact line_len hps hpl
        have hl26 : (headsD g ++ g.ds).length ≤ 26 := by rw [List.length_append]; show 2 + _ ≤ _; omega
        refine Nat.le_trans (Nat.add_le_add_right (sum_le' (b := 10020) fun z hz' => ?_) _) ?_
        · obtain ⟨d, hd, rfl⟩ := List.mem_map.1 hz'
          exact ll d hd
        · rw [List.length_map]
          show _ + _ * 0 ≤ _
          omega
    · refine cut_hide (fun τ G => False) (fun M' hM => ?_) (fun _ _ z => z.elim)
      walk_at "wp"
      exact ⟨_, rfl, .inr ⟨hno, hE⟩⟩
end

end YY

set_option maxRecDepth 100000
set_option maxHeartbeats 4000000
namespace YY
open PySem PySem.Spec PyProof.Rows L2 XX
local macro_rules | `(tactic| walk_at "wp") => `(tactic| simp only [Int.zero_add, L2.start, LcEnd, List.append_nil, List.cons.injEq, List.cons_append, List.getElem?_cons_succ, List.getElem?_cons_zero, List.length_cons, List.length_nil, List.map_cons, List.map_nil, List.nil_append, List.replicate, List.replicate_succ, List.replicate_zero, List.set_cons_succ, List.set_cons_zero, Nat.reduceAdd, Nat.reduceSub, Option.some.injEq, StX.tMakeR, StX.tStar, V.bl.injEq, V.int.injEq, V.ref.injEq, V.str.injEq, V.ty.injEq, WE, and_assoc, and_false, and_true, bool_ite_false, bool_ite_true, cxOf_K, cxOf_noxK, dec_ite, decide_eq_true_eq, exists_and_left, exists_and_right, exists_const, exists_eq_left, exists_eq_left', false_and, false_or, gCons, gName, gNil, gSub, gTup, iEnumA, iItems, iKeys, iList, iRng1, iRng2, iStr, iTup, iZipB, ite_false, ite_true, ndec_ite, or_false, rAppend, rCat, rCatT, rEq, rEqI, rEqK, rEqV, rExt2, rI, rI0, rIn, rInRg, rIndex, rIsD, rIsE, rIsE2, rIxD, rIxL, rIxS, rIxT, rLenI, rLenK, rListStr, rMax, rMaxDef, rSetIM, rEqT, sFldAug, rAdd, rMin, rMulS, rNe, rNeDA, rNeV, rRange1, rRep, rRepA, rReprE, rReprI, rSetD, rSetI, rSetL, rSlL, rSlT, rSortedSet, rU, reduceCtorEq, reduceIte, sFld, tAnd, tAndV, tAsg, tAug, tB, tBM, tBM0, tC, tCB, tCKw, tDGetT, tCall, tCallS, tChain, tCons, tDGet, tDIn, tDNewK, tDNotIn, tDcT_eq, tDc_eq, tDisp, tDrop, tErr, tFld, tFor_eq, tIf, tIfS, tIxI, tLc2_eq, tLc_eq, tLenSetS, tLock, tLockE, tLst, tLstRg, tM1, tMakeRS, tMakeS, tMakeV, tMakeVS, tMeth, tMethX, tMkO, tMulA, tMulD, tNext, tNil, tNoPart, tNot, tNotV, tOp, tOpI, tOpR, tOr, tOrV, tOst, tPairs, tPar, tPar3, tPart, tRet, tRetN, tRevT, tRg2, tSMeth, tSeq, tSl, tTest, tTup, tUn, tVar, tVeI, tXf, tYes, true_and, wAs, wMA, wipe])
/-! ### _part_of -/
abbrev sPartOf : Stmt := topS 41
/-- tuple(..), the frame told -/
def rTupOf (K : PySem.W.Frag) : List V → Hp → VK → Prop := fun xs H Q => ∃ p ys, xs = [.ref p] ∧ ((SqL K H p ys ∧ ∀ l, H l = none → Q (.ref l) (upd H l (.tup ys))) ∨ (SqT K H p ys ∧ Q (.ref p) H))
theorem call_tupK {X : Cx} (K : PySem.W.Frag) (h : X.K = K) : CallR X (.type "tuple") (rTupOf K) := by
  subst h
  exact call_tuple_of
theorem sl_listK {X : Cx} (K : PySem.W.Frag) (h : X.K = K) : SlR X (rSlL K) := by
  subst h
  exact sl_list
def digs : Str := "0123456789"
def isNumT (z : Str) : Bool := decide (1 ≤ z.length) && decide (z.length ≤ 2) && z.cps.toList.all fun c => decide (c ∈ digs.cps.toList)
/-- a word read -/
def readT (z : Str) : PyData := if z = "-" then .none else if isNumT z = true then .int (NumText.digitsVal z.cps.toList : Nat) else .str z
def readV (z : Str) : V := if z = "-" then .non else if isNumT z = true then .int (NumText.digitsVal z.cps.toList : Nat) else .str z
theorem dp_read {K : PySem.W.Frag} {H : Hp} (z : Str) : Dp K H (readV z) (readT z) := by
  unfold readV readT
  split
  · exact .non
  · split
    · exact .int _
    · exact .str z
theorem digs_mem (c : Nat) : c ∈ digs.cps.toList ↔ 48 ≤ c ∧ c ≤ 57 := by
  have e : digs.cps.toList = [48, 49, 50, 51, 52, 53, 54, 55, 56, 57] := by decide +kernel
  rw [e]
  simp only [List.mem_cons, List.not_mem_nil, or_false]
  omega
theorem num_int {z : Str} (h : isNumT z = true) : PySem.intText? z = some (NumText.digitsVal z.cps.toList : Nat) := by
  unfold isNumT at h
  rw [Bool.and_eq_true, Bool.and_eq_true, decide_eq_true_eq, decide_eq_true_eq] at h
  refine intText_digits (fun c hc => ?_) (fun e => ?_) (by omega)
  · have := List.all_eq_true.1 h.2 c hc
    exact (digs_mem c).1 (of_decide_eq_true this)
  · have e2 : z.length = z.cps.toList.length := rfl
    rw [e2, e] at h
    exact absurd h.1.1 (by decide)
section
variable {P : Program} {w : World} {K : PySem.W.Frag} {mg : Str → Option Value} {base : Heap}
def spPartOf (K : PySem.W.Frag) : Sp := fun vs H Q _ => ∃ z : Str, vs = [.str z] ∧ z.length ≤ 10000 ∧ ∀ G, Same H G → Q (readV z) G
theorem scPartOf : FnScope ["word", "is_number", "sign"] ["word"] (defScope sPartOf) := ⟨rfl, rfl, rfl, by decide +kernel, rfl, by decide +kernel, by decide +kernel⟩
theorem c_partOf {tk tk2 : Tok} (D : Def K mg "_part_of" sPartOf ["word"]) (T : Bl2 mg) (gN : mg "_NOTHING" = some (.str "-" tk)) (gD : mg "_DIGITS" = some (.str digs tk2)) : FnC P w K mg base CX0 1 "_part_of" ["word"] (spPartOf K) := by
  refine D.ok scPartOf (fun vs H Q E h => ?_) (fun f cdv A outer s H vs Q E hr h => ?_)
  · obtain ⟨z, rfl, _⟩ := h
    rfl
  · obtain ⟨z, rfl, hl, k⟩ := h
    have sc := scPartOf
    refine ⟨_, (pss_cut (ps_if (pt_cmpR op_eq (pv 0) (pe_glob (v := .str "-") (by rfl) gN ⟨_, rfl⟩) (nomark _)) (pss_one (ps_ret pe_non)) pss_nil)
      (pss_cut (ps_set (i := 1) sc.nd rfl (Or.inl rfl) (pe_and (pe_chain op_le op_le pe_int (pe_callB call_len_str (by rfl) T.n_len (by decide +kernel) (pa_cons (pv 0) pa_nil)) pe_int) (L2.pe_one (pe_callB (cr_all rfl) (by rfl) T.n_all (by decide +kernel) (pa_cons (pe_lc (own := [("sign", 2)]) (g := gName 2) (tt := tYes) rfl sc.nd (pi_str (pv 0)) (blkOk_by (N := ["word", "is_number", "sign"]) (sc := defScope sPartOf) (by decide +kernel)) (fun _ _ _ _ _ => (pg_name (i := 2) sc.nd rfl (Or.inl rfl))) (fun _ _ _ _ _ => pts_nil) (fun _ _ _ _ _ => (pe_cmpR op_in_sign (pv 2) (pe_glob (v := .str digs) (by rfl) gD ⟨_, rfl⟩) (by rfl)))) pa_nil)))))
      (pss_one (ps_ret (pe_ifExp (pt_val (pv 1)) (pe_callTy call_int_str (by rfl) T.n_int (by decide +kernel) (pa_cons (pv 0) pa_nil)) (pv 0)))))), ?_⟩
    refine cut_hide (fun τ G => τ = [some (.str z), none, none] ∧ G = H ∧ z ≠ "-") (fun M' hM => ?_) ?_
    · walk_at "wp"
      refine ⟨by unfold scal; simp, ite2 (fun c => ?_) fun c => hM _ _ ⟨rfl, rfl, c⟩⟩
      have e : readV z = .non := by
        unfold readV
        rw [if_pos c]
      rw [← e]
      exact k _ (Same.refl _)
    rintro τ G ⟨rfl, rfl, hne⟩
    refine cut_hide (fun τ G1 => τ = [some (.str z), some (.bl (isNumT z)), none] ∧ Same G G1) (fun M' hM => ?_) ?_
    · walk_at "wp"
      have hz := sizeLine_eq
      refine ⟨by omega, ite2 (fun c1 => ite2 (fun c2 => ?_) fun c2 => hM _ _ ⟨?_, Same.refl _⟩) fun c1 => hM _ _ ⟨?_, Same.refl _⟩⟩
      · refine lcw_it walk_str (fun D i G' => Same G G' ∧ G D = none ∧ G' D = some (.lst ((z.cps.toList.take i).map fun c => V.bl (decide (c ∈ digs.cps.toList))))) (fun D hD => ⟨same_new hD, hD, upd_same⟩) (fun _ _ _ _ _ => True.intro) ?_ ?_
        · rintro D i x H1 H2 hD hi ⟨s1, nD, hF⟩ ⟨rfl, c, hc, rfl⟩
          walk_at "wp"
          have hc' : z.cps.toList[i]? = some c := by rw [Array.getElem?_toList]; exact hc
          have e : z.length = z.cps.toList.length := rfl
          refine ⟨c, rfl, _, hF, by rw [List.length_map, List.length_take]; omega, same_mut s1 nD, nD, ?_⟩
          rw [upd_same, List.take_add_one, hc', List.map_append]
          rfl
        · rintro D H1 hD ⟨s1, nD, hF⟩
          have hb : isNumT z = (z.cps.toList.map fun c => decide (c ∈ digs.cps.toList)).all id := by
            unfold isNumT
            rw [decide_eq_true (by omega), decide_eq_true (by omega), List.all_map, Bool.true_and, Bool.true_and]
            rfl
          refine ⟨D, z.cps.toList.map fun c => decide (c ∈ digs.cps.toList), rfl, ?_, ?_⟩
          · refine SqL.of ?_
            rw [hF, List.map_map]
            have e : z.cps.size = z.cps.toList.length := by simp
            rw [e, List.take_length]
            rfl
          · exact hM _ _ ⟨by rw [hb], s1⟩
      · unfold isNumT
        rw [decide_eq_false (p := z.length ≤ 2) (by omega), Bool.and_false, Bool.false_and]
      · unfold isNumT
        rw [decide_eq_false (p := 1 ≤ z.length) (by omega), Bool.false_and, Bool.false_and]
    rintro τ G1 ⟨rfl, s1⟩
    walk_at "wp"
    have er : readV z = if isNumT z = true then .int (NumText.digitsVal z.cps.toList : Nat) else .str z := by
      unfold readV
      rw [if_neg hne]
    refine ite2 (fun c => ?_) fun c => ?_
    · have c2 : z.length ≤ 2 := by
        unfold isNumT at c
        rw [Bool.and_eq_true, Bool.and_eq_true, decide_eq_true_eq, decide_eq_true_eq] at c
        exact c.1.2
      rw [if_pos c] at er
      exact ⟨_, num_int c, by omega, er ▸ k _ s1⟩
    · rw [if_neg c] at er
      exact er ▸ k _ s1
end

end YY

set_option maxRecDepth 100000
set_option maxHeartbeats 4000000
namespace YY
open PySem PySem.Spec PyProof.Rows L2 XX
local macro_rules | `(tactic| walk_at "wp") => `(tactic| simp only [Int.zero_add, L2.start, LcEnd, List.append_nil, List.cons.injEq, List.cons_append, List.getElem?_cons_succ, List.getElem?_cons_zero, List.length_cons, List.length_nil, List.map_cons, List.map_nil, List.nil_append, List.replicate, List.replicate_succ, List.replicate_zero, List.set_cons_succ, List.set_cons_zero, Nat.reduceAdd, Nat.reduceSub, Option.some.injEq, StX.tMakeR, StX.tStar, V.bl.injEq, V.int.injEq, V.ref.injEq, V.str.injEq, V.ty.injEq, WE, and_assoc, and_false, and_true, bool_ite_false, bool_ite_true, cxOf_K, cxOf_noxK, dec_ite, decide_eq_true_eq, exists_and_left, exists_and_right, exists_const, exists_eq_left, exists_eq_left', false_and, false_or, gCons, gName, gNil, gSub, gTup, iEnumA, iItems, iKeys, iList, iRng1, iRng2, iStr, iTup, iZipB, ite_false, ite_true, ndec_ite, or_false, rAppend, rCat, rCatT, rEq, rEqI, rEqK, rEqV, rExt2, rI, rI0, rIn, rInRg, rIndex, rIsD, rIsE, rIsE2, rIxD, rIxL, rIxS, rIxT, rLenI, rLenK, rListStr, rMax, rMaxDef, rSetIM, rEqT, sFldAug, rAdd, rMin, rMulS, rNe, rNeDA, rNeV, rRange1, rRep, rRepA, rReprE, rReprI, rSetD, rSetI, rSetL, rSlL, rSlT, rSortedSet, rU, reduceCtorEq, reduceIte, sFld, tAnd, tAndV, tAsg, tAug, tB, tBM, tBM0, tC, tCB, tCKw, tDGetT, tCall, tCallS, tChain, tCons, tDGet, tDIn, tDNewK, tDNotIn, tDcT_eq, tDc_eq, tDisp, tDrop, tErr, tFld, tFor_eq, tIf, tIfS, tIxI, tLc2_eq, tLc_eq, tLenSetS, tLock, tLockE, tLst, tLstRg, tM1, tMakeRS, tMakeS, tMakeV, tMakeVS, tMeth, tMethX, tMkO, tMulA, tMulD, tNext, tNil, tNoPart, tNot, tNotV, tOp, tOpI, tOpR, tOr, tOrV, tOst, tPairs, tPar, tPar3, tPart, tRet, tRetN, tRevT, tRg2, tSMeth, tSeq, tSl, tTest, tTup, tUn, tVar, tVeI, tXf, tYes, true_and, wAs, wMA, wipe, rTupOf])
/-! ### _read_program -/
abbrev sReadP : Stmt := topS 40
/-- a text as the law draws them -/
structure OkS (z : Str) : Prop where
  len : z.length ≤ 1000
  cps : z.cps.all (· < 0x110000) = true
def LinesAt (K : PySem.W.Frag) (H : Hp) (l : Addr) (L : List (List Str)) : Prop := ∃ as : List Addr, H l = some (.lst (as.map V.ref)) ∧ Paired (fun a zs => H a = some (.lst (zs.map V.str))) as L
theorem LinesAt.same {K : PySem.W.Frag} {H G : Hp} {l : Addr} {L : List (List Str)} (s : Same H G) (h : LinesAt K H l L) : LinesAt K G l L := by
  obtain ⟨as, h1, h2⟩ := h
  exact ⟨as, s _ _ h1, L2.Paired.mapP h2 fun _ _ q => s _ _ q⟩
def rowD (zs : List Str) : PyData := .tuple (zs.map readT)
/-- the program that lines tell of, if any -/
def goodG (ws : List Str) (sz : PyData) (ds : List PyData) : Option PrD := if regsB (.tuple (ws.map PyData.str)) = true ∧ btw sz 2 3 = true ∧ rowsOk (.list ds) = true ∧ firstBad ws (intOf sz) ds = none then some ⟨ws, intOf sz, ds⟩ else none
def readG : List (List Str) → Option PrD
  | l0 :: l1 :: r0 :: rest => goodG (l1.drop 1) (readT (l0.getLast?.getD "")) ((r0 :: rest).dropLast.map rowD)
  | _ => none
theorem val2 {z : Str} (h : isNumT z = true) : NumText.digitsVal z.cps.toList ≤ 99 := by
  unfold isNumT at h
  rw [Bool.and_eq_true, Bool.and_eq_true, decide_eq_true_eq, decide_eq_true_eq] at h
  obtain ⟨⟨h1, h2⟩, h3⟩ := h
  have e : z.length = z.cps.toList.length := rfl
  rw [e] at h1 h2
  generalize z.cps.toList = l at h1 h2 h3
  match l, h1, h2, h3 with
  | [a], _, _, h => 
    have ha := (digs_mem a).1 (of_decide_eq_true (List.all_eq_true.1 h a (by simp)))
    show 0 * 10 + (a - 48) ≤ 99
    omega
  | [a, b], _, _, h =>
    have ha := (digs_mem a).1 (of_decide_eq_true (List.all_eq_true.1 h a (by simp)))
    have hb := (digs_mem b).1 (of_decide_eq_true (List.all_eq_true.1 h b (by simp)))
    show (0 * 10 + (a - 48)) * 10 + (b - 48) ≤ 99
    omega
theorem sm_read {z : Str} (h : OkS z) : sm (readT z) = true := by
  unfold readT
  split
  · rfl
  · split
    · rename_i hn
      have := val2 hn
      show (decide (-10 ≤ ((NumText.digitsVal z.cps.toList : Nat) : Int)) && decide (((NumText.digitsVal z.cps.toList : Nat) : Int) ≤ 1000)) = true
      rw [decide_eq_true (by omega), decide_eq_true (by omega)]
      rfl
    · show (decide (z.length ≤ 1000) && z.cps.all (· < 0x110000)) = true
      rw [decide_eq_true h.len, h.cps]
      rfl
theorem sms_of {ds : List PyData} (h : ∀ d ∈ ds, sm d = true) : sms ds = true := by
  induction ds with
  | nil => rfl
  | cons d ds ih =>
    show (sm d && sms ds) = true
    rw [h d List.mem_cons_self, ih fun e he => h e (List.mem_cons_of_mem _ he)]
    rfl
theorem sm_rowD {zs : List Str} (h : ∀ z ∈ zs, OkS z) (hl : zs.length ≤ 1000) : sm (rowD zs) = true := by
  show (decide ((zs.map readT).length ≤ 1000) && sms (zs.map readT)) = true
  rw [decide_eq_true (by rw [List.length_map]; exact hl), sms_of fun d hd => by
    obtain ⟨z, hz, rfl⟩ := List.mem_map.1 hd
    exact sm_read (h z hz)]
  rfl
/-- one kind of the four, and all are LanesErrors -/
structure ExmL (K : PySem.W.Frag) (cL cR cN cW cB : Addr) : Prop where
  R : PySem.W.exmOne K (.ref cR) (.ref cL) = some true
  N : PySem.W.exmOne K (.ref cN) (.ref cL) = some true
  W : PySem.W.exmOne K (.ref cW) (.ref cL) = some true
  B : PySem.W.exmOne K (.ref cB) (.ref cL) = some true
theorem cut_rows (xs : List V) (h : 3 ≤ xs.length) : cutV xs (some 2) (some (-1)) = (xs.drop 2).dropLast := by
  have e1 : HT.sIx xs.length 0 (some 2) = 2 := by
    show (if (2 : Int) < 0 then ((2 : Int) + (xs.length : Int)).toNat else min (2 : Int).toNat xs.length) = 2
    rw [if_neg (by decide)]
    show min 2 _ = 2
    omega
  have e2 : HT.sIx xs.length xs.length (some (-1)) = xs.length - 1 := by
    show (if (-1 : Int) < 0 then ((-1 : Int) + (xs.length : Int)).toNat else min (-1 : Int).toNat xs.length) = xs.length - 1
    rw [if_pos (by decide)]
    omega
  unfold cutV
  rw [e1, e2, List.dropLast_eq_take, List.length_drop]
  congr 1
theorem cut_one (xs : List V) (h : 1 ≤ xs.length) : cutV xs (some 1) none = xs.drop 1 := by
  have e1 : HT.sIx xs.length 0 (some 1) = 1 := by
    show (if (1 : Int) < 0 then ((1 : Int) + (xs.length : Int)).toNat else min (1 : Int).toNat xs.length) = 1
    rw [if_neg (by decide)]
    show min 1 _ = 1
    omega
  have e3 : HT.sIx xs.length xs.length none = xs.length := rfl
  unfold cutV
  rw [e1, e3]
  exact List.take_of_length_le (by rw [List.length_drop]; omega)
/-- a row read -/
def RowAt (K : PySem.W.Frag) (H : Hp) (v : V) (zs : List Str) : Prop := ∃ t, v = .ref t ∧ SqT K H t (zs.map readV)
theorem dps_read {K : PySem.W.Frag} {H : Hp} : ∀ zs : List Str, DpAll K H (zs.map readV) (zs.map readT)
  | [] => .nil
  | z :: zs => .cons (dp_read z) (dps_read zs)
theorem dps_rows {K : PySem.W.Frag} {H : Hp} : ∀ {vs : List V} {L : List (List Str)}, Paired (RowAt K H) vs L → DpAll K H vs (L.map rowD)
  | _, _, .nil => .nil
  | _, _, .cons h r => by
    obtain ⟨t, rfl, ht⟩ := h
    exact .cons (.tup ht (dps_read _)) (dps_rows r)
theorem paired_dropLast {α β : Type} {R : α → β → Prop} : ∀ {xs : List α} {ys : List β}, Paired R xs ys → Paired R xs.dropLast ys.dropLast
  | _, _, .nil => .nil
  | _, _, .cons h .nil => .nil
  | _, _, .cons h (.cons g r) => .cons h (paired_dropLast (.cons g r))
theorem last_at (xs : List V) (v : V) : atI (xs ++ [v]) (-1) = some v := by
  have e : (-1 + ((xs.length : Int) + 1)).toNat = xs.length := by omega
  simp only [atI, ixN, List.length_append, List.length_singleton]
  simp
  rw [if_pos (by omega)]
  show (xs ++ [v])[(-1 + ((xs.length : Int) + 1)).toNat]? = some v
  rw [e, List.getElem?_append_right (Nat.le_refl _), Nat.sub_self]
  rfl
theorem read_int {z : Str} {i : Int} (h : readT z = .int i) : readV z = .int i := by
  unfold readT at h
  unfold readV
  split at h
  · cases h
  · rename_i c
    rw [if_neg c]
    split at h
    · rename_i c2
      rw [if_pos c2]
      cases h
      rfl
    · cases h
theorem last_str {zs : List Str} (h : zs ≠ []) : atI (zs.map V.str) (-1) = some (.str (zs.getLast?.getD "")) := by
  have e : zs = zs.dropLast ++ [zs.getLast h] := (List.dropLast_concat_getLast h).symm
  have e2 : zs.getLast?.getD "" = zs.getLast h := by rw [List.getLast?_eq_getLast h]; rfl
  rw [e2]
  conv => lhs; rw [e, List.map_append]
  exact last_at _ _
def lcScR (st : Stmt) : Scope := match defBody st with
  | [_, .Assign _ (.ListComp _ _ sc _) _, _] => sc
  | _ => defScope st
section
variable {P : Program} {w : World} {K : PySem.W.Frag} {mg : Str → Option Value} {base : Heap}
def spReadP (K : PySem.W.Frag) (CP : Addr) : Sp := fun vs H Q _ => ∃ (l : Addr) (L : List (List Str)), vs = [.ref l] ∧ LinesAt K H l L ∧ L.length ≤ 1000 ∧ (∀ zs ∈ L, zs ≠ [] ∧ zs.length ≤ 1000 ∧ ∀ z ∈ zs, OkS z) ∧
  (readG L = none → ∀ G, Same H G → Q .non G) ∧ (∀ g, readG L = some g → ∀ y G, Same H G → H y = none → ProgAt K CP G y g → Q (.ref y) G)
theorem scReadP : FnScope ["lines", "rows", "word", "line"] ["lines"] (defScope sReadP) := ⟨rfl, rfl, rfl, by decide +kernel, rfl, by decide +kernel, by decide +kernel⟩
theorem takes0' {X : Cx} : L2.Takes X (fun _ _ _ _ => False) := fun _ _ h => by
  obtain ⟨_, _, _, _, _, _, _, _, _, _, _, _, _, _, _, _, z⟩ := h
  exact z.elim
theorem c_readP {f CP cL cR cN cW cB : Addr} {fd : FuncData} (D : Def K mg "_read_program" sReadP ["lines"]) (T : Bl2 mg) (gP : mg "Program" = some (.ref CP)) (gL : mg "LanesError" = some (.ref cL)) (M : Mk K CP f) (pc : ProgC K CP) (XL : ExmL K cL cR cN cW cB)
    (hb : KBn K fd ["self", "rows", "registers", "values"] 2 ["registers", "values"] gCat gCat) (F : FnOk P w K mg base (L2.CX P w) 5 f fd ["self", "rows", "registers", "values"] (spProg K CP cR cN cW cB)) (cP : FnC P w K mg base CX0 1 "_part_of" ["word"] (spPartOf K)) : FnC P w K mg base CX0 7 "_read_program" ["lines"] (spReadP K CP) := by
  refine D.ok scReadP (fun vs H Q E h => ?_) (fun f' cdv A outer s H vs Q E hr h => ?_)
  · obtain ⟨l, L, rfl, _⟩ := h
    rfl
  · obtain ⟨l, L, rfl, hl, hL, hz, k0, k1⟩ := h
    have sc := scReadP
    have hr1 : Room 1 _ := hr.mono (by decide)
    have hr6 : Room 6 _ := hr.mono (by decide)
    refine ⟨_, (pss_cut (ps_if (pt_cmpR op_lt (pe_callB call_len_seq (by rfl) T.n_len (by decide +kernel) (pa_cons (pv 0) pa_nil)) pe_int (nomark _)) (pss_one (ps_ret pe_non)) pss_nil)
      (pss_cut (ps_setLc (i := 1) (own := [("line", 3)]) (g := gName 3) (tt := tYes) rfl sc.nd rfl rfl (sw_true rfl rfl rfl (by decide +kernel)) (pi_list (pe_slice sl_list (pv 0) (po_some pe_int) (po_some (pe_un un_neg pe_int)))) (blkOk_by (N := ["lines", "rows", "word", "line"]) (sc := defScope sReadP) (by decide +kernel)) (fun _ _ _ _ _ => (pg_name (i := 3) sc.nd rfl (Or.inl rfl))) (fun _ _ _ _ _ => pts_nil)
        (fun _ _ _ _ _ => (pe_callTy (call_tupK K rfl) (by rfl) T.n_tuple (by decide +kernel) (pa_cons (pe_lc (own := [("word", 2)]) (g := gName 2) (tt := tYes) rfl sc.nd (pi_listK K rfl (pv 3)) (blkOk_by (N := ["lines", "rows", "word", "line"]) (sc := relS (lcScR sReadP) (defScope sReadP)) (by decide +kernel)) (fun _ _ _ _ _ => (pg_name (i := 2) sc.nd rfl (Or.inl rfl))) (fun _ _ _ _ _ => pts_nil) (fun _ _ _ _ _ => (pe_c cP hr1 rfl (pa_cons (pv 2) pa_nil)))) pa_nil))))
      (pss_one (ps_try_only (Wout := fun _ _ _ _ => False) rfl rfl ⟨rfl, by decide, .inl gL⟩ takes0'
        (fun W pn xe tkW hp => (pss_one (ps_ret (pe_makeS (E := WE W) (n := 1) M F hr rfl gP hb (fun σ => passAt tkW σ) (pa_cons (pv 1) pa_nil) (pk_cons (pe_callTy (call_tupK K rfl) (by rfl) T.n_tuple (by decide +kernel) (pa_cons (pe_slice (sl_listK K rfl) (pe_ix (ix_listK K rfl) (pv 0) pe_int (fun _ _ => rfl)) (po_some pe_int) po_none) pa_nil)) (pk_cons (pe_c cP hr1 rfl (pa_cons (pe_ix (ix_listK K rfl) (pe_ix (ix_listK K rfl) (pv 0) pe_int (fun _ _ => rfl)) (pe_un un_neg pe_int) (fun _ _ => rfl)) pa_nil)) pk_nil))))))
        (fun a oe cls dd pn hz hf => pss_one (ps_ret pe_non)))))), ?_⟩
    refine cut_hide (fun τ G => τ = [some (.ref l), none, none, none] ∧ G = H ∧ 3 ≤ L.length) (fun M' hM => ?_) ?_
    · walk_at "wp"
      obtain ⟨as, h1, h2⟩ := id hl
      have ll := paired_len' h2
      refine ⟨_, .inl (SqL.of h1), ite2 (fun c => ?_) fun c => hM _ _ ⟨rfl, rfl, by rw [List.length_map] at c; omega⟩⟩
      rw [List.length_map] at c
      refine k0 ?_ _ (Same.refl _)
      match L, (show L.length < 3 by omega) with
      | [], _ => rfl
      | [_], _ => rfl
      | [_, _], _ => rfl
    rintro τ G ⟨rfl, rfl, h3⟩
    obtain ⟨l0, l1, r0, rest, rfl⟩ : ∃ l0 l1 r0 rest, L = l0 :: l1 :: r0 :: rest := by
      match L, h3 with
      | a :: b :: c :: r, _ => exact ⟨_, _, _, _, rfl⟩
    obtain ⟨as, has, hps⟩ := id hl
    obtain ⟨a0, a1, as', rfl, q0, q1, qr⟩ : ∃ a0 a1 as', as = a0 :: a1 :: as' ∧ G a0 = some (.lst (l0.map V.str)) ∧ G a1 = some (.lst (l1.map V.str)) ∧ Paired (fun a zs => G a = some (.lst (zs.map V.str))) as' (r0 :: rest) := by
      cases hps with
      | cons x y =>
        cases y with
        | cons y z => exact ⟨_, _, _, rfl, x, y, z⟩
    have hz2 := sizeLine_eq
    have lr := paired_len' qr
    have lL : rest.length + 3 ≤ 1000 := hL
    refine cut_hide (fun τ G1 => ∃ (R : Addr) (ts : List V), τ = [some (.ref l), some (.ref R), none, none] ∧ Same G G1 ∧ G R = none ∧ G1 R = some (.lst ts) ∧ Paired (RowAt K G1) ts (r0 :: rest).dropLast) (fun M' hM => ?_) ?_
    · walk_at "wp"
      refine ⟨_, SqL.of has, fun pc1 npc => ⟨⟨_, SqL.of upd_same⟩, ?_⟩⟩
      rw [cut_rows _ (by rw [List.length_map, List.length_cons, List.length_cons]; show 3 ≤ as'.length + 1 + 1; rw [lr, List.length_cons]; omega)]
      have ex : ((a0 :: a1 :: as').map V.ref).drop 2 = as'.map V.ref := rfl
      rw [ex, ← List.map_dropLast]
      have qd := paired_dropLast qr
      have sc1 := same_new (o := .lst (as'.dropLast.map V.ref)) npc
      have hc1 : (upd G pc1 (.lst (as'.dropLast.map V.ref))) pc1 = some (.lst (as'.dropLast.map V.ref)) := upd_same
      generalize upd G pc1 (.lst (as'.dropLast.map V.ref)) = A at sc1 hc1 ⊢
      have ld := paired_len' qd
      have ldr : (r0 :: rest).dropLast.length = rest.length := by rw [List.length_dropLast]; rfl
      refine lcw_it (walk_list (xs := as'.dropLast.map V.ref)) (fun D i F => Same A F ∧ A D = none ∧ ∃ ts, F D = some (.lst ts) ∧ Paired (RowAt K F) ts ((r0 :: rest).dropLast.take i)) (fun D hD => ⟨same_new hD, hD, [], upd_same, .nil⟩) (fun D i F _ h => SqL.of (h.1 _ _ hc1)) ?_ ?_
      · rintro D i v F1 F2 hD hi ⟨sF, nD, ts, hF, hts⟩ ⟨rfl, hv⟩
        rw [List.getElem?_map] at hv
        obtain ⟨b, hb, rfl⟩ := Option.map_eq_some_iff.1 hv
        obtain ⟨zs, hzs, hbz⟩ := paired_get2 qd hb
        have hmem : zs ∈ l0 :: l1 :: r0 :: rest := List.mem_cons_of_mem _ (List.mem_cons_of_mem _ (List.dropLast_subset _ (List.mem_of_getElem? hzs)))
        obtain ⟨hne, hzl, hzo⟩ := hz zs hmem
        have hbF := (sc1.trans sF) _ _ hbz
        have hi2 : i < (r0 :: rest).dropLast.length := (List.getElem?_eq_some_iff.1 hzs).1
        walk_at "wp"
        refine ⟨⟨_, SqL.of hbF⟩, ?_⟩
        refine lcw_it (walk_list (xs := zs.map V.str)) (fun D2 i2 F => Same F2 F ∧ F2 D2 = none ∧ F D2 = some (.lst ((zs.take i2).map readV))) (fun D2 hD2 => ⟨same_new hD2, hD2, upd_same⟩) (fun D2 i2 F _ h => SqL.of (h.1 _ _ hbF)) ?_ ?_
        · rintro D2 i2 v2 F3 F4 hD2 hi2' ⟨sF3, nD2, hF3⟩ ⟨rfl, hv2⟩
          rw [List.getElem?_map] at hv2
          obtain ⟨z, hz1, rfl⟩ := Option.map_eq_some_iff.1 hv2
          walk_at "wp"
          have li := (List.getElem?_eq_some_iff.1 hz1).1
          refine ⟨z, rfl, by have := (hzo z (List.mem_of_getElem? hz1)).len; omega, fun F5 s5 => ⟨_, s5 _ _ hF3, by rw [List.length_map, List.length_take]; omega, same_mut (sF3.trans s5) nD2, nD2, ?_⟩⟩
          rw [upd_same, List.take_add_one, hz1, List.map_append]
          rfl
        · rintro D2 F3 hD2 ⟨sF3, nD2, hF3⟩
          rw [List.length_map, List.take_length] at hF3
          refine ⟨_, rfl, _, .inl ⟨SqL.of hF3, fun t nt => ?_⟩⟩
          have st := same_new (o := .tup (zs.map readV)) nt
          have hD4 := (sF3.trans st) _ _ hF
          have lts := paired_len' hts
          rw [List.length_take] at lts
          refine ⟨ts, hD4, by omega, same_mut (sF.trans (sF3.trans st)) nD, nD, ts ++ [.ref t], upd_same, ?_⟩
          rw [List.take_add_one, hzs]
          have up : ∀ {v : V} {ys : List Str}, RowAt K F2 v ys → RowAt K (upd (upd F3 t (.tup (zs.map readV))) D (.lst (ts ++ [.ref t]))) v ys := fun {v ys} q => by
            obtain ⟨t', e, q⟩ := q
            exact ⟨t', e, sqT_mut (Same.sqT (sF3.trans st) q) hD4⟩
          exact pair_snoc (L2.Paired.mapP hts fun _ _ q => up q) ⟨t, rfl, sqT_mut (SqT.of upd_same) hD4⟩
      · rintro D F hD ⟨sF, nD, ts, hF, hts⟩
        rw [List.length_map, ld, List.take_length] at hts
        exact hM _ _ ⟨D, ts, rfl, sc1.trans sF, none_back sc1 nD, hF, hts⟩
    rintro τ G1 ⟨R, ts, rfl, s1, nR, hR, hts⟩
    walk_at "wp"
    obtain ⟨n0, z0l, z0o⟩ := hz l0 (by simp)
    obtain ⟨n1, z1l, z1o⟩ := hz l1 (by simp)
    have ll1 : 1 ≤ l1.length := List.length_pos_iff.2 n1
    refine ⟨_, SqL.of (s1 _ _ has), _, at_of (j := 1) rfl rfl, a1, rfl, _, SqL.of (s1 _ _ q1), fun p1 np1 => ⟨(l1.drop 1).map V.str, .inl ?_⟩⟩
    rw [cut_one _ (by rw [List.length_map]; exact ll1), ← List.map_drop]
    refine ⟨SqL.of upd_same, fun p2 np2 => ?_⟩
    have sp := (same_new (o := .lst ((l1.drop 1).map V.str)) np1).trans (same_new (o := .tup ((l1.drop 1).map V.str)) np2)
    have hp2 : (upd (upd G1 p1 (.lst ((l1.drop 1).map V.str))) p2 (.tup ((l1.drop 1).map V.str))) p2 = some (.tup ((l1.drop 1).map V.str)) := upd_same
    generalize upd (upd G1 p1 (.lst ((l1.drop 1).map V.str))) p2 (.tup ((l1.drop 1).map V.str)) = A at sp hp2 ⊢
    have zo : OkS (l0.getLast?.getD "") := by
      rw [List.getLast?_eq_getLast n0]
      exact z0o _ (List.getLast_mem n0)
    refine ⟨_, SqL.of ((s1.trans sp) _ _ has), _, at_of (j := 0) rfl rfl, a0, rfl, _, SqL.of ((s1.trans sp) _ _ q0), _, last_str n0, _, rfl, by have := zo.len; omega, fun F sF => ?_⟩
    intro x dx hx hdx hne
    have s0 : Same F (upd (upd F dx (.own x)) x (.ins CP dx [])) := same_mut (same_new hdx) hx
    have hx0 : (upd (upd F dx (.own x)) x (.ins CP dx [])) x = some (.ins CP dx []) := upd_same
    generalize upd (upd F dx (.own x)) x (.ins CP dx []) = G0 at s0 hx0 ⊢
    have sAll := (sp.trans sF).trans s0
    have sG := s1.trans sAll
    have hrows : DpAll K G0 ts ((r0 :: rest).dropLast.map rowD) := dps_rows (L2.Paired.mapP hts fun _ _ q => by
      obtain ⟨t, e, q⟩ := q
      exact ⟨t, e, Same.sqT sAll q⟩)
    have ldr : (r0 :: rest).dropLast.length = rest.length := by rw [List.length_dropLast]; rfl
    have hsmr : sm (.list ((r0 :: rest).dropLast.map rowD)) = true := by
      show (decide (((r0 :: rest).dropLast.map rowD).length ≤ 1000) && sms ((r0 :: rest).dropLast.map rowD)) = true
      rw [decide_eq_true (by rw [List.length_map, ldr]; omega), sms_of fun d hd => by
        obtain ⟨zs, hzs, rfl⟩ := List.mem_map.1 hd
        obtain ⟨_, q1, q2⟩ := hz zs (List.mem_cons_of_mem _ (List.mem_cons_of_mem _ (List.dropLast_subset _ hzs)))
        exact sm_rowD q2 q1]
      rfl
    have hsmw : sm (.tuple ((l1.drop 1).map PyData.str)) = true := by
      show (decide (((l1.drop 1).map PyData.str).length ≤ 1000) && sms ((l1.drop 1).map PyData.str)) = true
      rw [decide_eq_true (by rw [List.length_map, List.length_drop]; omega), sms_of fun d hd => by
        obtain ⟨z, hz1, rfl⟩ := List.mem_map.1 hd
        have q := z1o z (List.mem_of_mem_drop hz1)
        show (decide (z.length ≤ 1000) && z.cps.all (· < 0x110000)) = true
        rw [decide_eq_true q.len, q.cps]
        rfl]
      rfl
    have er : readG (l0 :: l1 :: r0 :: rest) = goodG (l1.drop 1) (readT (l0.getLast?.getD "")) ((r0 :: rest).dropLast.map rowD) := rfl
    have bad : ¬ (regsB (.tuple ((l1.drop 1).map PyData.str)) = true ∧ btw (readT (l0.getLast?.getD "")) 2 3 = true ∧ rowsOk (.list ((r0 :: rest).dropLast.map rowD)) = true ∧ firstBad (l1.drop 1) (intOf (readT (l0.getLast?.getD ""))) ((r0 :: rest).dropLast.map rowD) = none) → ∀ G', Same G0 G' → Q .non G' := fun c G' s' => k0 (by rw [er]; unfold goodG; rw [if_neg c]) G' (sG.trans s')
    refine ⟨x, dx, .ref R, .ref p2, _, .list ((r0 :: rest).dropLast.map rowD), .tuple ((l1.drop 1).map PyData.str), readT (l0.getLast?.getD ""), rfl, hx0, .inl (.lst (SqL.of (sAll _ _ hR)) hrows), fun _ => hsmr, .tup (SqT.of ((sF.trans s0) _ _ hp2)) (dpAll_strs _), hsmw, dp_read _, fun e1 G' d g hd => ?_, fun e1 e2 G' d g hd => ?_, fun e1 e2 e3 G' d g hd => ?_, fun e1 e2 ds hi e3 => ⟨fun i hfb G' d g hd => ?_, fun hfb G' r t pl ch ex hG hr' ht hpl hch => ?_⟩⟩
    · exact ⟨true, XL.R, fun _ a ha => bad (fun z => by rw [e1] at z; exact Bool.noConfusion z.1) _ (g.trans (same_new hd)), fun h => nomatch h⟩
    · exact ⟨true, XL.N, fun _ a ha => bad (fun z => by rw [e2] at z; exact Bool.noConfusion z.2.1) _ (g.trans (same_new hd)), fun h => nomatch h⟩
    · exact ⟨true, XL.W, fun _ a ha => bad (fun z => by rw [e3] at z; exact Bool.noConfusion z.2.2.1) _ (g.trans (same_new hd)), fun h => nomatch h⟩
    · cases hi
      rw [strsOf_map] at hfb
      exact ⟨true, XL.B, fun _ a ha => bad (fun z => by rw [hfb] at z; exact nomatch z.2.2.2) _ (g.trans (same_new hd)), fun h => nomatch h⟩
    · cases hi
      rw [strsOf_map] at hfb hpl hch
      obtain ⟨iz, ez, _, _⟩ := btw_int e2
      have hv := read_int ez
      have eg : readG (l0 :: l1 :: r0 :: rest) = some ⟨l1.drop 1, iz, (r0 :: rest).dropLast.map rowD⟩ := by
        rw [er]
        unfold goodG
        rw [if_pos ⟨e1, e2, e3, hfb⟩, ez]
        rfl
      rw [hv] at hG
      rw [ez] at hch
      exact ⟨rfl, k1 _ eg x G' (fun b o hb => by
        have nb : b ≠ x := fun z => by rw [z] at hb; have := (s1.trans (sp.trans sF)) _ _ hb; rw [hx] at this; cases this
        exact ex b o nb (sG _ _ hb)) (none_back (s1.trans (sp.trans sF)) hx) (prog_of hG hr' ht hpl hch)⟩
end

end YY

set_option maxRecDepth 100000
set_option maxHeartbeats 4000000
namespace YY
open PySem PySem.Spec PyProof.Rows L2 XX
local macro_rules | `(tactic| walk_at "wp") => `(tactic| simp only [Int.zero_add, L2.start, LcEnd, List.append_nil, List.cons.injEq, List.cons_append, List.getElem?_cons_succ, List.getElem?_cons_zero, List.length_cons, List.length_nil, List.map_cons, List.map_nil, List.nil_append, List.replicate, List.replicate_succ, List.replicate_zero, List.set_cons_succ, List.set_cons_zero, Nat.reduceAdd, Nat.reduceSub, Option.some.injEq, StX.tMakeR, StX.tStar, V.bl.injEq, V.int.injEq, V.ref.injEq, V.str.injEq, V.ty.injEq, WE, and_assoc, and_false, and_true, bool_ite_false, bool_ite_true, cxOf_K, cxOf_noxK, dec_ite, decide_eq_true_eq, exists_and_left, exists_and_right, exists_const, exists_eq_left, exists_eq_left', false_and, false_or, gCons, gName, gNil, gSub, gTup, iEnumA, iItems, iKeys, iList, iRng1, iRng2, iStr, iTup, iZipB, ite_false, ite_true, ndec_ite, or_false, rAppend, rCat, rCatT, rEq, rEqI, rEqK, rEqV, rExt2, rI, rI0, rIn, rInRg, rIndex, rIsD, rIsE, rIsE2, rIxD, rIxL, rIxS, rIxT, rLenI, rLenK, rListStr, rMax, rMaxDef, rSetIM, rEqT, sFldAug, rAdd, rMin, rMulS, rNe, rNeDA, rNeV, rRange1, rRep, rRepA, rReprE, rReprI, rSetD, rSetI, rSetL, rSlL, rSlT, rSortedSet, rU, reduceCtorEq, reduceIte, sFld, tAnd, tAndV, tAsg, tAug, tB, tBM, tBM0, tC, tCB, tCKw, tDGetT, tCall, tCallS, tChain, tCons, tDGet, tDIn, tDNewK, tDNotIn, tDcT_eq, tDc_eq, tDisp, tDrop, tErr, tFld, tFor_eq, tIf, tIfS, tIxI, tLc2_eq, tLc_eq, tLenSetS, tLock, tLockE, tLst, tLstRg, tM1, tMakeRS, tMakeS, tMakeV, tMakeVS, tMeth, tMethX, tMkO, tMulA, tMulD, tNext, tNil, tNoPart, tNot, tNotV, tOp, tOpI, tOpR, tOr, tOrV, tOst, tPairs, tPar, tPar3, tPart, tRet, tRetN, tRevT, tRg2, tSMeth, tSeq, tSl, tTest, tTup, tUn, tVar, tVeI, tXf, tYes, true_and, wAs, wMA, wipe, rTupOf])
/-! ### parse_program -/
abbrev sParseP : Stmt := topS 39
/-- a drawn text -/
structure OkT (z : Str) : Prop where
  len : z.length ≤ 900
  cps : z.cps.all (· < 0x110000) = true
def linesT (z : Str) : List (List Str) := (Txt.split z "\n").map fun l => Txt.split l " "
/-- the program that a text tells of, if any -/
def parseG (z : Str) : Option PrD := match readG (linesT z) with
  | some g => if progT g = z then some g else none
  | none => none
theorem spl_mem {S : List Nat} : ∀ (k : Nat) (acc l : List Nat), ∀ p ∈ TL.spl S k acc l, p.length ≤ acc.length + l.length ∧ ∀ c ∈ p, c ∈ acc ∨ c ∈ l
  | k, acc, [], p, hp => by
    rw [TL.spl_nil] at hp
    rw [List.mem_singleton.1 hp]
    exact ⟨Nat.le_add_right _ _, fun c hc => .inl hc⟩
  | 0, acc, c :: r, p, hp => by
    unfold TL.spl at hp
    split at hp
    · rcases List.mem_cons.1 hp with rfl | hp
      · exact ⟨Nat.le_add_right _ _, fun c hc => .inl hc⟩
      · obtain ⟨h1, h2⟩ := spl_mem _ [] r p hp
        refine ⟨by rw [List.length_nil] at h1; rw [List.length_cons]; omega, fun x hx => ?_⟩
        rcases h2 x hx with h | h
        · cases h
        · exact .inr (List.mem_cons_of_mem _ h)
    · obtain ⟨h1, h2⟩ := spl_mem 0 (acc ++ [c]) r p hp
      refine ⟨by rw [List.length_append, List.length_singleton] at h1; rw [List.length_cons]; omega, fun x hx => ?_⟩
      rcases h2 x hx with h | h
      · rcases List.mem_append.1 h with h | h
        · exact .inl h
        · rw [List.mem_singleton.1 h]
          exact .inr List.mem_cons_self
      · exact .inr (List.mem_cons_of_mem _ h)
  | k + 1, acc, _ :: r, p, hp => by
    unfold TL.spl at hp
    obtain ⟨h1, h2⟩ := spl_mem k acc r p hp
    refine ⟨by rw [List.length_cons]; omega, fun x hx => (h2 x hx).imp id (List.mem_cons_of_mem _)⟩
theorem spl_ne {S : List Nat} : ∀ (k : Nat) (acc l : List Nat), TL.spl S k acc l ≠ []
  | k, acc, [] => by rw [TL.spl_nil]; simp
  | 0, acc, c :: r => by
    unfold TL.spl
    split
    · simp
    · exact spl_ne _ _ _
  | k + 1, acc, _ :: r => by
    unfold TL.spl
    exact spl_ne _ _ _
theorem split_mem {x y : Str} (hy : TL.tl y ≠ []) (hk : y.cps.all (· < 256) = true) {p : Str} (hp : p ∈ Txt.split x y) : p.length ≤ x.length ∧ ∀ c ∈ p.cps.toList, c ∈ x.cps.toList := by
  have e := TL.split_spl x y hy (TL.kind_ok hk)
  have hm : TL.tl p ∈ TL.spl (TL.tl y) 0 [] (TL.tl x) := by rw [← e]; exact List.mem_map_of_mem hp
  obtain ⟨h1, h2⟩ := spl_mem _ _ _ _ hm
  refine ⟨by rw [TL.len_tl, TL.len_tl]; simpa using h1, fun c hc => ?_⟩
  rcases h2 c hc with h | h
  · cases h
  · exact h
theorem split_ne {x y : Str} (hy : TL.tl y ≠ []) (hk : y.cps.all (· < 256) = true) : Txt.split x y ≠ [] := fun h => by
  have e := TL.split_spl x y hy (TL.kind_ok hk)
  rw [h] at e
  exact spl_ne _ _ _ e.symm
theorem cps_sub {x p : Str} (h : x.cps.all (· < 0x110000) = true) (hs : ∀ c ∈ p.cps.toList, c ∈ x.cps.toList) : p.cps.all (· < 0x110000) = true := by
  rw [← Array.all_toList] at h ⊢
  rw [List.all_eq_true] at h ⊢
  exact fun c hc => h c (hs c hc)
theorem nl_ne : TL.tl ("\n" : Str) ≠ [] := by decide +kernel
theorem sp_ne : TL.tl (" " : Str) ≠ [] := by decide +kernel
theorem lines_ok {z : Str} (h : OkT z) : (linesT z).length ≤ 1000 ∧ ∀ zs ∈ linesT z, zs ≠ [] ∧ zs.length ≤ 1000 ∧ ∀ q ∈ zs, OkS q := by
  refine ⟨?_, fun zs hzs => ?_⟩
  · unfold linesT
    rw [List.length_map]
    have := PyProof.Rows.split_le z "\n"
    have := h.len
    omega
  · obtain ⟨l, hl, rfl⟩ := List.mem_map.1 hzs
    obtain ⟨a1, a2⟩ := split_mem nl_ne (by decide +kernel) hl
    refine ⟨split_ne sp_ne (by decide +kernel), ?_, fun q hq => ?_⟩
    · have := PyProof.Rows.split_le l " "
      have := h.len
      omega
    · obtain ⟨b1, b2⟩ := split_mem sp_ne (by decide +kernel) hq
      have := h.len
      exact ⟨by omega, cps_sub (cps_sub h.cps a2) b2⟩
theorem pt_read {z : Str} (h : OkS z) : IsPt (readT z) := by
  unfold readT
  split
  · exact .inl rfl
  · split
    · rename_i c
      exact .inr (.inr ⟨_, rfl, by have := val2 c; omega⟩)
    · exact .inr (.inl ⟨z, rfl, h.len⟩)
theorem form_len {k : Str} {ns : List Str} (h : formOf k = some ns) : ns.length ≤ 4 := by
  unfold formOf at h
  obtain ⟨e, he, rfl⟩ := Option.map_eq_some_iff.1 h
  have hm := List.mem_of_find?_eq_some he
  have key : ∀ e ∈ formTab, e.2.length ≤ 4 := by decide +kernel
  exact key e hm
theorem row_ten {rs : List Str} {size en : Int} {ds : List PyData} (h : rowB rs size en (.tuple ds) = true) : ds.length ≤ 10 := by
  obtain ⟨k, ps, e⟩ := rowB_str h
  cases e
  cases hf : formOf k with
  | none =>
    have e : rowB rs size en (.tuple (.str k :: ps)) = (match formOf k with
      | some ns => partsB rs size en ps ns
      | none => false) := rfl
    rw [e, hf] at h
    cases h
  | some ns =>
    have hp := rowB_parts hf h
    have hl : ps.length = ns.length := by
      by_cases c : ps.length = ns.length
      · exact c
      · rw [partsB_len c] at hp
        cases hp
    rw [List.length_cons, hl]
    have := form_len hf
    omega
theorem regs_two {ws : List Str} (h : regsB (.tuple (ws.map PyData.str)) = true) : ws.length ≤ 2 := by
  match ws, h with
  | [], _ => exact Nat.zero_le _
  | [a], _ => exact Nat.le_succ _
  | [a, b], _ => exact Nat.le_refl _
theorem good_ok {L : List (List Str)} {g : PrD} (hz : ∀ zs ∈ L, zs ≠ [] ∧ zs.length ≤ 1000 ∧ ∀ z ∈ zs, OkS z) (h : readG L = some g) : PtOk g := by
  match L, h with
  | l0 :: l1 :: r0 :: rest, h =>
    have er : readG (l0 :: l1 :: r0 :: rest) = goodG (l1.drop 1) (readT (l0.getLast?.getD "")) ((r0 :: rest).dropLast.map rowD) := rfl
    rw [er] at h
    unfold goodG at h
    split at h
    · rename_i c
      obtain ⟨c1, c2, c3, c4⟩ := c
      cases h
      obtain ⟨i, ei, i2, i3⟩ := btw_int c2
      refine ⟨fun d hd => ?_, fun z hz' => ?_, ⟨i.toNat, ?_, ?_⟩, ?_, ?_⟩
      · obtain ⟨zs, hzs, rfl⟩ := List.mem_map.1 hd
        obtain ⟨_, _, q⟩ := hz zs (List.mem_cons_of_mem _ (List.mem_cons_of_mem _ (List.dropLast_subset _ hzs)))
        refine ⟨_, rfl, fun p hp => ?_, ?_⟩
        · obtain ⟨z, hz1, rfl⟩ := List.mem_map.1 hp
          exact pt_read (q z hz1)
        · have hb := List.findIdx?_eq_none_iff.1 c4 _ hd
          have hb2 : rowB (l1.drop 1) (intOf (readT (l0.getLast?.getD ""))) (((r0 :: rest).dropLast.map rowD).length : Nat) (rowD zs) = true := by
            cases q2 : rowB (l1.drop 1) (intOf (readT (l0.getLast?.getD ""))) (((r0 :: rest).dropLast.map rowD).length : Nat) (rowD zs) with
            | true => rfl
            | false => rw [q2] at hb; cases hb
          exact row_ten hb2
      · exact ((hz l1 (by simp)).2.2 z (List.mem_of_mem_drop hz')).len
      · show intOf (readT _) = _
        rw [ei]
        show i = _
        omega
      · omega
      · unfold rowsOk at c3
        simp only [itemsOf, Bool.and_eq_true, decide_eq_true_eq] at c3
        exact c3.2
      · have := regs_two c1
        show (l1.drop 1).length ≤ 8
        omega
    · cases h
section
variable {P : Program} {w : World} {K : PySem.W.Frag} {mg : Str → Option Value} {base : Heap}
def spParseP (K : PySem.W.Frag) (CP cT : Addr) : Sp := fun vs H Q E => ∃ v, vs = [v] ∧ ((∃ d, Dp K H v d ∧ (∀ z, d ≠ .str z) ∧ raisesV cT v H E) ∨
  ∃ z, v = .str z ∧ OkT z ∧ (parseG z = none → raisesV cT v H E) ∧ ∀ g, parseG z = some g → ∀ y G, Same H G → H y = none → ProgAt K CP G y g → Q (.ref y) G)
theorem scParseP : FnScope ["text", "program", "line"] ["text"] (defScope sParseP) := ⟨rfl, rfl, rfl, by decide +kernel, rfl, by decide +kernel, by decide +kernel⟩
theorem c_parseP {CP cP cT fI : Addr} {fdI : FuncData} {tk : Tok} (D : Def K mg "parse_program" sParseP ["text"]) (T : Bl4 mg) (gM : mg "_MOST_SIGNS" = some (.int 3000 tk)) (ET : ErrC K mg "BadText" cT fI) (cI : FnOk P w K mg base CX0 1 fI fdI ["self", "value"] (spErr K)) (hbI : Binds K fdI ["self", "value"] [])
    (cR : FnC P w K mg base CX0 7 "_read_program" ["lines"] (spReadP K CP)) (cF : FnC P w K mg base (L2.CX P w) 4 "format_program" ["program"] (spFormatP K CP cP)) : FnC P w K mg base (L2.CX P w) 8 "parse_program" ["text"] (spParseP K CP cT) := by
  refine D.okX scParseP (fun vs H Q E h => ?_) (fun f' cdv A outer s H vs Q E hr h => ?_)
  · obtain ⟨v, rfl, _⟩ := h
    rfl
  · obtain ⟨v, rfl, h⟩ := h
    have sc := scParseP
    have hr2 : Room 2 _ := hr.mono (by decide)
    have hr4 : Room 4 _ := hr.mono (by decide)
    refine ⟨_, (pss_cut (ps_if (PW.pt (pw_or (pt_not (pt_val (pe_callB (call_isD ty_str) (by rfl) T.n_isinstance (by decide +kernel) (pa_cons (pv 0) (pa_cons (pe_ty "str" (by rfl) T.n_str) pa_nil))))) (pw_or1 (pt_cmpR op_gt (pe_callB call_len_str (by rfl) T.n_len (by decide +kernel) (pa_cons (pv 0) pa_nil)) (pe_glob (v := .int 3000) (by rfl) gM ⟨_, rfl⟩) (nomark _))))) (pss_one (ps_err ET cI hbI hr2 rfl (takes_of rfl rfl rfl rfl) (pv 0) rfl)) pss_nil)
      (pss_cut (ps_set (i := 1) sc.nd rfl (Or.inl rfl) (pe_c cR hr rfl (pa_cons (pe_lc (own := [("line", 2)]) (g := gName 2) (tt := tYes) rfl sc.nd (pi_list (pe_split (pv 0) pe_str)) (blkOk_by (N := ["text", "program", "line"]) (sc := defScope sParseP) (by decide +kernel)) (fun _ _ _ _ _ => (pg_name (i := 2) sc.nd rfl (Or.inl rfl))) (fun _ _ _ _ _ => pts_nil) (fun _ _ _ _ _ => (pe_split (pv 2) pe_str))) pa_nil)))
      (pss_cut (ps_if (PW.pt (pw_or (pt_cmpR op_isN (pv 1) pe_non (nomark _)) (pw_or1 (pt_cmpR op_ne (pe_cX (E := WE (fun cls d _ H => E cls d H)) cF hr4 (fun σ => passAt (takes_of rfl rfl rfl rfl) σ) rfl (pa_cons (pv 1) pa_nil)) (pv 0) (nomark _))))) (pss_one (ps_err ET cI hbI hr2 rfl (takes_of rfl rfl rfl rfl) (pv 0) rfl)) pss_nil)
      (pss_one (ps_ret (pv 1)))))), ?_⟩
    rcases h with ⟨d, hd, hns, hE⟩ | ⟨z, rfl, ok, hE, k⟩
    · refine cut_hide (fun τ G => False) (fun M' hM => ?_) (fun _ _ z => z.elim)
      walk_at "wp"
      refine ⟨d, hd, Eq.mpr (if_pos ?_) (err_of2 ET.oex ET.no fun d' hd' => hE H d' (Same.refl H) hd')⟩
      cases d with
      | str z => exact absurd rfl (hns z)
      | none => decide +kernel
      | bool b => exact (show (!isTy "bool" "str") = true by decide +kernel)
      | int i => exact (show (!isTy "int" "str") = true by decide +kernel)
      | list ds => exact (show (!isTy "list" "str") = true by decide +kernel)
      | tuple ds => exact (show (!isTy "tuple" "str") = true by decide +kernel)
      | dict ds => exact (show (!isTy "dict" "str") = true by decide +kernel)
    · have hz := sizeLine_eq
      have zl := ok.len
      obtain ⟨lk1, lk2⟩ := lines_ok ok
      refine cut_hide (fun τ G => τ = [some (.str z), none, none] ∧ G = H) (fun M' hM => ?_) ?_
      · walk_at "wp"
        exact ⟨_, .str z, Eq.mpr (if_neg (by rw [show isTy (tyOf (PyData.str z)) "str" = true from isTy_str _]; decide)) ⟨by omega, Eq.mpr (if_neg (by omega)) (hM _ _ ⟨rfl, rfl⟩)⟩⟩
      rintro τ G ⟨rfl, rfl⟩
      refine cut_hide (fun τ G1 => ∃ v1, τ = [some (.str z), some v1, none] ∧ Same G G1 ∧ ((readG (linesT z) = none ∧ v1 = .non) ∨ ∃ g y, readG (linesT z) = some g ∧ v1 = .ref y ∧ G y = none ∧ ProgAt K CP G1 y g)) (fun M' hM => ?_) ?_
      · walk_at "wp"
        refine ⟨⟨_, rfl⟩, by decide +kernel, by omega, fun p np => ⟨p, rfl, ⟨_, SqL.of upd_same⟩, ?_⟩⟩
        have sp := same_new (o := .lst ((Txt.split z "\n").map V.str)) np
        have hp : (upd G p (.lst ((Txt.split z "\n").map V.str))) p = some (.lst ((Txt.split z "\n").map V.str)) := upd_same
        generalize upd G p (.lst ((Txt.split z "\n").map V.str)) = A at sp hp ⊢
        have ll : (linesT z).length = (Txt.split z "\n").length := List.length_map ..
        refine lcw_it (walk_list (xs := (Txt.split z "\n").map V.str)) (fun D i F => Same A F ∧ A D = none ∧ ∃ as : List Addr, F D = some (.lst (as.map V.ref)) ∧ Paired (fun a zs => F a = some (.lst (zs.map V.str)) ∧ a ≠ D) as ((linesT z).take i)) (fun D hD => ⟨same_new hD, hD, [], upd_same, .nil⟩) (fun D i F _ h => SqL.of (h.1 _ _ hp)) ?_ ?_
        · rintro D i v F1 F2 hD hi ⟨sF, nD, as, hF, has⟩ ⟨rfl, hv⟩
          rw [List.getElem?_map] at hv
          obtain ⟨q, hq, rfl⟩ := Option.map_eq_some_iff.1 hv
          obtain ⟨a1, a2⟩ := split_mem nl_ne (by decide +kernel) (List.mem_of_getElem? hq)
          walk_at "wp"
          refine ⟨⟨_, rfl⟩, by decide +kernel, by omega, fun p2 np2 => ?_⟩
          have s2 := same_new (o := .lst ((Txt.split q " ").map V.str)) np2
          have las := paired_len' has
          rw [List.length_take] at las
          have hD2 := s2 _ _ hF
          have n2 : p2 ≠ D := fun z => by rw [z, hF] at np2; cases np2
          refine ⟨_, hD2, by rw [List.length_map]; omega, same_mut (sF.trans s2) nD, nD, as ++ [p2], by rw [upd_same, List.map_append]; rfl, ?_⟩
          have hi2 : (linesT z)[i]? = some (Txt.split q " ") := by
            unfold linesT
            rw [List.getElem?_map, hq]
            rfl
          rw [List.take_add_one, hi2]
          exact pair_snoc (L2.Paired.mapP has fun _ _ w => ⟨(upd_ne w.2).trans (s2 _ _ w.1), w.2⟩) ⟨(upd_ne n2).trans upd_same, n2⟩
        · rintro D F hD ⟨sF, nD, as, hF, has⟩
          rw [List.length_map, ← ll, List.take_length] at has
          have sAll := sp.trans sF
          refine ⟨D, linesT z, rfl, ⟨as, hF, L2.Paired.mapP has fun _ _ w => w.1⟩, lk1, lk2, fun e G' s' => hM _ _ ⟨_, rfl, sAll.trans s', .inl ⟨e, rfl⟩⟩, fun g e y G' s' ny hy => hM _ _ ⟨_, rfl, sAll.trans s', .inr ⟨g, y, e, rfl, none_back sAll ny, hy⟩⟩⟩
      rintro τ G1 ⟨v1, rfl, s1, h1⟩
      rcases h1 with ⟨e, rfl⟩ | ⟨g, y, e, rfl, ny, hy⟩
      · refine cut_hide (fun τ G => False) (fun M' hM => ?_) (fun _ _ z => z.elim)
        have pe : parseG z = none := by
          unfold parseG
          rw [e]
        walk_at "wp"
        exact err_of2 ET.oex ET.no fun d' hd' => hE pe G1 d' s1 hd'
      · have okg := good_ok lk2 e
        refine cut_hide (fun τ G2 => τ = [some (.str z), some (.ref y), none] ∧ Same G1 G2 ∧ progT g = z) (fun M' hM => ?_) ?_
        · walk_at "wp"
          refine ⟨_, rfl, .inl ⟨y, g, rfl, hy, okg, fun G2 s2 => ⟨by unfold scal; simp, ?_⟩⟩⟩
          by_cases c : progT g = z
          · exact Eq.mpr (if_pos (by rw [c])) (hM _ _ ⟨rfl, s2, c⟩)
          · have pe : parseG z = none := by
              unfold parseG
              rw [e]
              exact if_neg c
            exact Eq.mpr (if_neg (fun q => c (V.str.inj q))) (err_of2 ET.oex ET.no fun d' hd' => hE pe G2 d' (s1.trans s2) hd')
        rintro τ G2 ⟨rfl, s2, eg⟩
        have pe : parseG z = some g := by
          unfold parseG
          rw [e]
          exact if_pos eg
        walk_at "wp"
        exact k g pe y G2 (s1.trans s2) ny (hy.same s2)
end

end YY

set_option maxRecDepth 100000
set_option maxHeartbeats 4000000
namespace YY
open PySem PySem.Spec PyProof.Rows L2 XX
local macro_rules | `(tactic| walk_at "wp") => `(tactic| simp only [Int.zero_add, L2.start, LcEnd, List.append_nil, List.cons.injEq, List.cons_append, List.getElem?_cons_succ, List.getElem?_cons_zero, List.length_cons, List.length_nil, List.map_cons, List.map_nil, List.nil_append, List.replicate, List.replicate_succ, List.replicate_zero, List.set_cons_succ, List.set_cons_zero, Nat.reduceAdd, Nat.reduceSub, Option.some.injEq, StX.tMakeR, StX.tStar, V.bl.injEq, V.int.injEq, V.ref.injEq, V.str.injEq, V.ty.injEq, WE, and_assoc, and_false, and_true, bool_ite_false, bool_ite_true, cxOf_K, cxOf_noxK, dec_ite, decide_eq_true_eq, exists_and_left, exists_and_right, exists_const, exists_eq_left, exists_eq_left', false_and, false_or, gCons, gName, gNil, gSub, gTup, iEnumA, iItems, iKeys, iList, iRng1, iRng2, iStr, iTup, iZipB, ite_false, ite_true, ndec_ite, or_false, rAppend, rCat, rCatT, rEq, rEqI, rEqK, rEqV, rExt2, rI, rI0, rIn, rInRg, rIndex, rIsD, rIsE, rIsE2, rIxD, rIxL, rIxS, rIxT, rLenI, rLenK, rListStr, rMax, rMaxDef, rSetIM, rEqT, sFldAug, rAdd, rMin, rMulS, rNe, rNeDA, rNeV, rRange1, rRep, rRepA, rReprE, rReprI, rSetD, rSetI, rSetL, rSlL, rSlT, rSortedSet, rU, reduceCtorEq, reduceIte, sFld, tAnd, tAndV, tAsg, tAug, tB, tBM, tBM0, tC, tCB, tCKw, tDGetT, tCall, tCallS, tChain, tCons, tDGet, tDIn, tDNewK, tDNotIn, tDcT_eq, tDc_eq, tDisp, tDrop, tErr, tFld, tFor_eq, tIf, tIfS, tIxI, tLc2_eq, tLc_eq, tLenSetS, tLock, tLockE, tLst, tLstRg, tM1, tMakeRS, tMakeS, tMakeV, tMakeVS, tMeth, tMethX, tMkO, tMulA, tMulD, tNext, tNil, tNoPart, tNot, tNotV, tOp, tOpI, tOpR, tOr, tOrV, tOst, tPairs, tPar, tPar3, tPart, tRet, tRetN, tRevT, tRg2, tSMeth, tSeq, tSl, tTest, tTup, tUn, tVar, tVeI, tXf, tYes, true_and, wAs, wMA, wipe, rTupOf])
/-! ### format_data, parse_data -/
abbrev sFormatD : Stmt := topS 42
abbrev sParseD : Stmt := topS 43
/-- the text of data -/
def dataT (ns : List Int) : Str := if 0 < ns.length then Txt.join "" (ns.map fun n => Str.ofString (toString n)) else "-"
def bin3 : Str := "012"
/-- the data that a text tells of, if any -/
def parseDs (z : Str) : Option (List Int) := if 60 < z.length then none else if z = "-" then some [] else if z.length = 0 ∨ z.cps.toList.getLast? = some 48 ∨ (z.cps.toList.all fun c => decide (c ∈ bin3.cps.toList)) = false then none else some (z.cps.toList.map fun c : Nat => (c : Int) - 48)
theorem last_atG {α : Type} {l : List α} (h : l ≠ []) : atI l (-1) = some (l.getLast h) := by
  have e : l = l.dropLast ++ [l.getLast h] := (List.dropLast_concat_getLast h).symm
  generalize l.getLast h = v at e
  generalize l.dropLast = xs at e
  subst e
  have e : (-1 + ((xs.length : Int) + 1)).toNat = xs.length := by omega
  simp only [atI, ixN, List.length_append, List.length_singleton]
  simp
  rw [if_pos (by omega)]
  show (xs ++ [v])[(-1 + ((xs.length : Int) + 1)).toNat]? = some v
  rw [e, List.getElem?_append_right (Nat.le_refl _), Nat.sub_self]
  rfl
theorem bin_mem (c : Nat) : c ∈ bin3.cps.toList ↔ 48 ≤ c ∧ c ≤ 50 := by
  have e : bin3.cps.toList = [48, 49, 50] := by decide +kernel
  rw [e]
  simp only [List.mem_cons, List.not_mem_nil, or_false]
  omega
theorem int_one {c : Nat} (h : 48 ≤ c ∧ c ≤ 57) : PySem.intText? ⟨#[c]⟩ = some ((c : Int) - 48) := by
  have e := intText_digits (x := ⟨#[c]⟩) (fun d hd => by
    rw [List.mem_singleton.1 (show d ∈ [c] from hd)]
    exact h) (by simp) (show 1 ≤ 4300 by decide)
  rw [e]
  show some (((0 * 10 + (c - 48) : Nat)) : Int) = _
  congr 1
  omega
theorem trim_self {ns : List Int} (h : ns.getLast? ≠ some 0) : trimZ ns = ns := by
  by_cases c : ns = []
  · subst c
    rfl
  · have e : ns = ns.dropLast ++ [ns.getLast c] := (List.dropLast_concat_getLast c).symm
    rw [List.getLast?_eq_getLast c] at h
    rw [e]
    exact trimZ_keep fun z => h (by rw [z])
section
variable {P : Program} {w : World} {K : PySem.W.Frag} {mg : Str → Option Value} {base : Heap}
def spFormatD (K : PySem.W.Frag) (CD cB : Addr) : Sp := fun vs H Q E => ∃ v, vs = [v] ∧ ((∃ x ns, v = .ref x ∧ DatAt K CD H x ns ∧ (∀ n ∈ ns, 0 ≤ n ∧ n ≤ 2) ∧ ns.length ≤ 60 ∧ ∀ G, Same H G → Q (.str (dataT ns)) G) ∨ (NoProg K CD H v ∧ raisesV cB v H E))
theorem scFormatD : FnScope ["data", "value"] ["data"] (defScope sFormatD) := ⟨rfl, rfl, rfl, by decide +kernel, rfl, by decide +kernel, by decide +kernel⟩
theorem c_formatD {CD cB fI : Addr} {fdI : FuncData} {tk : Tok} (D : Def K mg "format_data" sFormatD ["data"]) (T : Bl2 mg) (n_str : mg "str" = none) (dc : DatC K CD) (gD : mg "Data" = some (.ref CD)) (ic : IsC K CD) (gN : mg "_NOTHING" = some (.str "-" tk)) (EB : ErrC K mg "BadData" cB fI) (cI : FnOk P w K mg base CX0 1 fI fdI ["self", "value"] (spErr K)) (hbI : Binds K fdI ["self", "value"] [])
    (cLen : MtC P w K mg base CX0 1 CD "__len__" ["self"] (spLenD K CD)) : FnC P w K mg base (L2.CX P w) 3 "format_data" ["data"] (spFormatD K CD cB) := by
  refine D.okX scFormatD (fun vs H Q E h => ?_) (fun f' cdv A outer s H vs Q E hr h => ?_)
  · obtain ⟨v, rfl, _⟩ := h
    rfl
  · obtain ⟨v, rfl, h⟩ := h
    have sc := scFormatD
    have hr2 : Room 2 _ := hr.mono (by decide)
    refine ⟨_, (pss_cut (ps_if (pt_not (pt_val (pe_callB call_isi (by rfl) T.n_isinstance (by decide +kernel) (pa_cons (pv 0) (pa_cons (pe_glob (v := .ref CD) rfl gD rfl) pa_nil))))) (pss_one (ps_err EB cI hbI hr2 rfl (takes_of rfl rfl rfl rfl) (pv 0) rfl)) pss_nil)
      (pss_one (ps_ret (pe_ifExp (pt_cmpR op_gt (pe_callB (call_lenI cLen hr2) (by rfl) T.n_len (by decide +kernel) (pa_cons (pv 0) pa_nil)) pe_int (nomark _)) (pe_join pe_str (pe_lc (own := [("value", 1)]) (g := gName 1) (tt := tYes) rfl sc.nd (pi_tup (pe_fld (pv 0) rfl)) (blkOk_by (N := ["data", "value"]) (sc := defScope sFormatD) (by decide +kernel)) (fun _ _ _ _ _ => (pg_name (i := 1) sc.nd rfl (Or.inl rfl))) (fun _ _ _ _ _ => pts_nil) (fun _ _ _ _ _ => (pe_callTy call_str_int (by rfl) n_str (by decide +kernel) (pa_cons (pv 1) pa_nil))))) (pe_glob (v := .str "-") (by rfl) gN ⟨_, rfl⟩))))), ?_⟩
    rcases h with ⟨x, ns, rfl, hx, hv, hl, k⟩ | ⟨hno, hE⟩
    · refine cut_hide (fun τ G => τ = [some (.ref x), none] ∧ G = H) (fun M' hM => ?_) ?_
      · walk_at "wp"
        obtain ⟨dx, t, hxi, ht⟩ := id hx
        exact ⟨_, _, _, _, true, rfl, .own CD, .base (.ins hxi dc.cls ic.at_ ic.sp ic.tk ic.mro), kit_self K CD, true, rfl, Eq.mpr (if_neg (by decide)) (hM _ _ ⟨rfl, rfl⟩)⟩
      rintro τ G ⟨rfl, rfl⟩
      walk_at "wp"
      obtain ⟨dx, t, hxi, ht⟩ := id hx
      have hz := sizeLine_eq
      refine ⟨⟨_, _, hxi⟩, x, ns, rfl, hx, _, rfl, by omega, by omega, ite2 (fun c => ?_) fun c => ?_⟩
      · refine ⟨⟨_, rfl⟩, CD, dx, _, hxi, dc.cls, dc.n1, _, rfl, t, rfl, ⟨_, ht⟩, ?_⟩
        refine lcw_it (walk_tup (xs := ns.map V.int)) (fun D i F => Same G F ∧ G D = none ∧ F D = some (.lst (((ns.take i).map fun n => Str.ofString (toString n)).map V.str))) (fun D hD => ⟨same_new hD, hD, upd_same⟩) (fun D i F _ h => Same.sqT h.1 ht) ?_ ?_
        · rintro D i v F1 F2 hD hi ⟨s1, nD, hF⟩ ⟨rfl, hv'⟩
          rw [List.getElem?_map] at hv'
          obtain ⟨n, hn, rfl⟩ := Option.map_eq_some_iff.1 hv'
          have hn2 := hv n (List.mem_of_getElem? hn)
          have li := (List.getElem?_eq_some_iff.1 hn).1
          walk_at "wp"
          refine ⟨?_, _, hF, by rw [List.length_map, List.length_map, List.length_take]; omega, same_mut s1 nD, nD, ?_⟩
          · exact Nat.lt_of_le_of_lt (Nat.log2_le_self _) (by omega)
          · rw [upd_same, List.take_add_one, hn]
            simp
        · rintro D F hD ⟨s1, nD, hF⟩
          rw [List.length_map, List.take_length] at hF
          refine ⟨D, rfl, _, .inl (SqL.of hF), ?_, ?_⟩
          · have := sum_le' (f := fun z : Str => z.length) (b := 4) (l := ns.map fun n => Str.ofString (toString n)) fun z hz' => by
              obtain ⟨n, hn, rfl⟩ := List.mem_map.1 hz'
              obtain ⟨h0, h2⟩ := hv n hn
              obtain ⟨m, rfl⟩ := Int.eq_ofNat_of_zero_le h0
              exact intT_len (by omega)
            rw [List.length_map] at this ⊢
            show _ + _ * 0 ≤ _
            omega
          · have e : dataT ns = Txt.join "" (ns.map fun n => Str.ofString (toString n)) := by
              unfold dataT
              rw [if_pos (by omega)]
            rw [← e]
            exact k _ s1
      · have e : dataT ns = "-" := by
          unfold dataT
          rw [if_neg (by omega)]
        have q := k _ (Same.refl _)
        rw [e] at q
        exact q
    · refine cut_hide (fun τ G => False) (fun M' hM => ?_) (fun _ _ z => z.elim)
      walk_at "wp"
      obtain ⟨t, ht, hk⟩ := hno
      exact ⟨_, _, _, _, false, rfl, .own CD, ht, hk, false, rfl, Eq.mpr (if_pos rfl) (err_of2 EB.oex EB.no fun d' hd' => hE H d' (Same.refl H) hd')⟩
def spParseD (K : PySem.W.Frag) (CD cT : Addr) : Sp := fun vs H Q E => ∃ v, vs = [v] ∧ ((∃ d, Dp K H v d ∧ (∀ z, d ≠ .str z) ∧ raisesV cT v H E) ∨
  ∃ z, v = .str z ∧ z.length ≤ 10000 ∧ (parseDs z = none → raisesV cT v H E) ∧ ∀ ns, parseDs z = some ns → ∀ x G, Same H G → DatAt K CD G x ns → Q (.ref x) G)
theorem scParseD : FnScope ["text", "sign"] ["text"] (defScope sParseD) := ⟨rfl, rfl, rfl, by decide +kernel, rfl, by decide +kernel, by decide +kernel⟩
theorem c_parseD {CD cB cT fI fD gO pO : Addr} {mcO : Value} {gdO fdI : FuncData} {tk tk2 : Tok} (D : Def K mg "parse_data" sParseD ["text"]) (T : Bl2 mg) (gM : mg "MOST_VALUES" = some (.int 60 tk)) (gN : mg "_NOTHING" = some (.str "-" tk2)) (ET : ErrC K mg "BadText" cT fI) (cI : FnOk P w K mg base CX0 1 fI fdI ["self", "value"] (spErr K)) (hbI : Binds K fdI ["self", "value"] [])
    (gD : mg "Data" = some (.ref CD)) (mkD : Mk K CD fD) (FD : FnR P w K mg base (L2.CX P w) 4 fD (spDR K CD cB)) (cr : ClX.CRead K CD mcO) (sm' : SMet K CD mcO "of" pO gO) (FO : FnOk P w K mg base (L2.CX P w) 6 gO gdO ["values"] (spOf K CD cB)) (bO : Binds K gdO ["values"] []) : FnC P w K mg base (L2.CX P w) 8 "parse_data" ["text"] (spParseD K CD cT) := by
  refine D.okX scParseD (fun vs H Q E h => ?_) (fun f' cdv A outer s H vs Q E hr h => ?_)
  · obtain ⟨v, rfl, _⟩ := h
    rfl
  · obtain ⟨v, rfl, h⟩ := h
    have sc := scParseD
    have hr2 : Room 2 _ := hr.mono (by decide)
    have hr5 : Room 5 _ := hr.mono (by decide)
    have hr7 : Room 7 _ := hr.mono (by decide)
    have hr6 : Room 6 _ := hr.mono (by decide)
    refine ⟨_, (pss_cut (ps_if (PW.pt (pw_or (pt_not (pt_val (pe_callB (call_isD ty_str) (by rfl) T.n_isinstance (by decide +kernel) (pa_cons (pv 0) (pa_cons (pe_ty "str" (by rfl) T.n_str) pa_nil))))) (pw_or1 (pt_cmpR op_gt (pe_callB call_len_str (by rfl) T.n_len (by decide +kernel) (pa_cons (pv 0) pa_nil)) (pe_glob (v := .int 60) (by rfl) gM ⟨_, rfl⟩) (nomark _))))) (pss_one (ps_err ET cI hbI hr2 rfl (takes_of rfl rfl rfl rfl) (pv 0) rfl)) pss_nil)
      (pss_cut (ps_if (pt_cmpR op_eq (pv 0) (pe_glob (v := .str "-") (by rfl) gN ⟨_, rfl⟩) (nomark _)) (pss_one (ps_ret (pe_makeRS0 (D := WE (fun cls d _ H => E cls d H)) mkD FD hr5 (fun σ => passAt (takes_of rfl rfl rfl rfl) σ) rfl gD))) pss_nil)
      (pss_cut (ps_if (PW.pt (pw_or (pt_cmpR op_eq (pe_callB call_len_str (by rfl) T.n_len (by decide +kernel) (pa_cons (pv 0) pa_nil)) pe_int (nomark _)) (pw_or (pt_cmpR op_eq (pe_ix ix_str (pv 0) (pe_un un_neg pe_int) (fun _ _ => rfl)) pe_str (nomark _)) (pw_or1 (pt_not (pt_val (pe_callB (cr_all rfl) (by rfl) T.n_all (by decide +kernel) (pa_cons (pe_lc (own := [("sign", 1)]) (g := gName 1) (tt := tYes) rfl sc.nd (pi_str (pv 0)) (blkOk_by (N := ["text", "sign"]) (sc := defScope sParseD) (by decide +kernel)) (fun _ _ _ _ _ => (pg_name (i := 1) sc.nd rfl (Or.inl rfl))) (fun _ _ _ _ _ => pts_nil) (fun _ _ _ _ _ => (pe_cmpR op_in_sign (pv 1) pe_str (by rfl)))) pa_nil)))))))) (pss_one (ps_err ET cI hbI hr2 rfl (takes_of rfl rfl rfl rfl) (pv 0) rfl)) pss_nil)
      (pss_one (ps_ret (pe_smeth (E := WE (fun cls d _ H => E cls d H)) (pe_glob (v := .ref CD) (by rfl) gD (by rfl)) cr sm' FO bO hr6 (fun σ => passAt (takes_of rfl rfl rfl rfl) σ) (pa_cons (pe_lc (own := [("sign", 1)]) (g := gName 1) (tt := tYes) rfl sc.nd (pi_str (pv 0)) (blkOk_by (N := ["text", "sign"]) (sc := defScope sParseD) (by decide +kernel)) (fun _ _ _ _ _ => (pg_name (i := 1) sc.nd rfl (Or.inl rfl))) (fun _ _ _ _ _ => pts_nil) (fun _ _ _ _ _ => (pe_callTy call_int_str (by rfl) T.n_int (by decide +kernel) (pa_cons (pv 1) pa_nil)))) pa_nil))))))), ?_⟩
    rcases h with ⟨d, hd, hns, hE⟩ | ⟨z, rfl, zl, hE, k⟩
    · refine cut_hide (fun τ G => False) (fun M' hM => ?_) (fun _ _ z => z.elim)
      walk_at "wp"
      refine ⟨d, hd, Eq.mpr (if_pos ?_) (err_of2 ET.oex ET.no fun d' hd' => hE H d' (Same.refl H) hd')⟩
      cases d with
      | str z => exact absurd rfl (hns z)
      | none => decide +kernel
      | bool b => exact (show (!isTy "bool" "str") = true by decide +kernel)
      | int i => exact (show (!isTy "int" "str") = true by decide +kernel)
      | list ds => exact (show (!isTy "list" "str") = true by decide +kernel)
      | tuple ds => exact (show (!isTy "tuple" "str") = true by decide +kernel)
      | dict ds => exact (show (!isTy "dict" "str") = true by decide +kernel)
    have hz := sizeLine_eq
    have el : z.length = z.cps.toList.length := rfl
    have er : ∀ (F : Hp), Same H F → parseDs z = none → 1 ≤ 1000 ∧ ∀ a, F a = none → spErr K [.ref a, .str z] (upd F a (exo a cT none)) (fun v' H2 => v' = .non ∧ ∃ (d : Addr), H2 a = some (exo a cT (some d)) ∧ ∃ (fs : List (Str × V)), H2 d = some (exd d fs) ∧ F d = none ∧ E (.ref cT) (some d) (upd (del H2 a) d (.xd fs))) (fun _ _ _ => False) := fun F s e => err_of2 ET.oex ET.no fun d' hd' => hE e F d' s hd'
    refine cut_hide (fun τ G => τ = [some (.str z), none] ∧ G = H ∧ z.length ≤ 60) (fun M' hM => ?_) ?_
    · walk_at "wp"
      refine ⟨_, .str z, Eq.mpr (if_neg (by rw [show isTy (tyOf (PyData.str z)) "str" = true from isTy_str _]; decide)) ⟨by omega, ite2 (fun c => er H (Same.refl _) (by unfold parseDs; rw [if_pos (by omega)])) fun c => hM _ _ ⟨rfl, rfl, by omega⟩⟩⟩
    rintro τ G ⟨rfl, rfl, z60⟩
    refine cut_hide (fun τ G1 => τ = [some (.str z), none] ∧ G1 = G ∧ z ≠ "-") (fun M' hM => ?_) ?_
    · walk_at "wp"
      refine ⟨by unfold scal; simp, ite2 (fun c => ?_) fun c => hM _ _ ⟨rfl, rfl, c⟩⟩
      refine mk_run (ds := []) .nil (by decide) (fun q => by cases q) fun _ F x s hx => ?_
      exact k [] (by unfold parseDs; rw [if_neg (by omega), if_pos c]) x F s hx
    rintro τ G1 ⟨rfl, rfl, hne⟩
    refine cut_hide (fun τ G2 => τ = [some (.str z), none] ∧ Same G1 G2 ∧ parseDs z = some (z.cps.toList.map fun c : Nat => (c : Int) - 48) ∧ (∀ c ∈ z.cps.toList, 48 ≤ c ∧ c ≤ 50) ∧ z.cps.toList.getLast? ≠ some 48) (fun M' hM => ?_) ?_
    · walk_at "wp"
      refine ⟨by omega, rfl, ite2 (fun c => er _ (Same.refl _) (by unfold parseDs; rw [if_neg (by omega), if_neg hne, if_pos (.inl (by omega))])) fun c => ⟨by omega, ?_⟩⟩
      have lne : z.cps.toList ≠ [] := fun q => by rw [el, q] at c; exact c rfl
      refine ⟨_, last_atG lne, by unfold scal; simp, ite2 (fun c2 => er _ (Same.refl _) ?_) fun c2 => ?_⟩
      · have q : z.cps.toList.getLast? = some 48 := by
          rw [List.getLast?_eq_getLast lne]
          have e : (⟨#[z.cps.toList.getLast lne]⟩ : Str).cps.toList = (Str.ofString "0").cps.toList := by rw [c2]
          have e2 : (Str.ofString "0").cps.toList = [48] := by decide +kernel
          rw [e2] at e
          exact congrArg some (List.cons.inj e).1
        unfold parseDs
        rw [if_neg (by omega), if_neg hne, if_pos (.inr (.inl q))]
      have hlast : z.cps.toList.getLast? ≠ some 48 := fun q => by
        rw [List.getLast?_eq_getLast lne] at q
        exact c2 (by rw [Option.some.inj q]; decide +kernel)
      refine lcw_it walk_str (fun D i G' => Same G1 G' ∧ G1 D = none ∧ G' D = some (.lst ((z.cps.toList.take i).map fun c => V.bl (decide (c ∈ bin3.cps.toList))))) (fun D hD => ⟨same_new hD, hD, upd_same⟩) (fun _ _ _ _ _ => True.intro) ?_ ?_
      · rintro D i x H1 H2 hD hi ⟨s1, nD, hF⟩ ⟨rfl, c, hc, rfl⟩
        walk_at "wp"
        have hc' : z.cps.toList[i]? = some c := by rw [Array.getElem?_toList]; exact hc
        refine ⟨c, rfl, _, hF, by rw [List.length_map, List.length_take]; omega, same_mut s1 nD, nD, ?_⟩
        rw [upd_same, List.take_add_one, hc', List.map_append]
        rfl
      · rintro D H1 hD ⟨s1, nD, hF⟩
        refine ⟨D, z.cps.toList.map fun c => decide (c ∈ bin3.cps.toList), rfl, ?_, ?_⟩
        · refine SqL.of ?_
          rw [hF, List.map_map]
          have e : z.cps.size = z.cps.toList.length := by simp
          rw [e, List.take_length]
          rfl
        · refine ⟨_, rfl, ?_⟩
          have ea : ((z.cps.toList.map fun c => decide (c ∈ bin3.cps.toList)).all id) = z.cps.toList.all fun c => decide (c ∈ bin3.cps.toList) := by rw [List.all_map]; rfl
          rw [ea]
          cases hb : z.cps.toList.all fun c => decide (c ∈ bin3.cps.toList) with
          | false => exact er _ s1 (by unfold parseDs; rw [if_neg (by omega), if_neg hne, if_pos (.inr (.inr hb))])
          | true =>
            refine hM _ _ ⟨rfl, s1, ?_, fun c hc => (bin_mem c).1 (of_decide_eq_true (List.all_eq_true.1 hb c hc)), hlast⟩
            unfold parseDs
            rw [if_neg (by omega), if_neg hne, if_neg]
            rintro (q | q | q)
            · omega
            · exact hlast q
            · rw [hb] at q; cases q
    rintro τ G2 ⟨rfl, s2, ep, h012, hlast⟩
    walk_at "wp"
    refine lcw_it walk_str (fun D i G' => Same G2 G' ∧ G2 D = none ∧ G' D = some (.lst ((z.cps.toList.take i).map fun c : Nat => V.int ((c : Int) - 48)))) (fun D hD => ⟨same_new hD, hD, upd_same⟩) (fun _ _ _ _ _ => True.intro) ?_ ?_
    · rintro D i x H1 H2 hD hi ⟨s1, nD, hF⟩ ⟨rfl, c, hc, rfl⟩
      walk_at "wp"
      have hc' : z.cps.toList[i]? = some c := by rw [Array.getElem?_toList]; exact hc
      have c012 := h012 c (List.mem_of_getElem? hc')
      refine ⟨_, int_one ⟨c012.1, by omega⟩, (by show 1 ≤ 640; decide), _, hF, by rw [List.length_map, List.length_take]; omega, same_mut s1 nD, nD, ?_⟩
      rw [upd_same, List.take_add_one, hc', List.map_append]
      rfl
    · rintro D H1 hD ⟨s1, nD, hF⟩
      have e : z.cps.size = z.cps.toList.length := by simp
      rw [e, List.take_length] at hF
      have dps : DpAll K H1 (z.cps.toList.map fun c : Nat => V.int ((c : Int) - 48)) ((z.cps.toList.map fun c : Nat => (c : Int) - 48).map PyData.int) := by
        generalize z.cps.toList = l
        induction l with
        | nil => exact .nil
        | cons c l ih => exact .cons (.int _) ih
      refine ⟨.ref D, .list ((z.cps.toList.map fun c : Nat => (c : Int) - 48).map PyData.int), rfl, .inl (.lst (SqL.of hF) dps), (fun q => nomatch q), fun ds q => ?_⟩
      cases q
      have hv : valsB ((z.cps.toList.map fun c : Nat => (c : Int) - 48).map PyData.int) = true := by
        unfold valsB
        rw [decide_eq_true (by rw [List.length_map, List.length_map]; omega), Bool.true_and, List.all_eq_true]
        intro d hd
        obtain ⟨i, hi, rfl⟩ := List.mem_map.1 hd
        obtain ⟨c, hc, rfl⟩ := List.mem_map.1 hi
        have := h012 c hc
        exact btw_of (by omega) (by omega)
      refine ⟨by rw [List.length_map, List.length_map]; omega, (fun q => by rw [hv] at q; cases q), fun _ F x sF hx => ?_⟩
      have et : trimZ (((z.cps.toList.map fun c : Nat => (c : Int) - 48).map PyData.int).map intOf) = z.cps.toList.map fun c : Nat => (c : Int) - 48 := by
        have e1 : ((z.cps.toList.map fun c : Nat => (c : Int) - 48).map PyData.int).map intOf = z.cps.toList.map fun c : Nat => (c : Int) - 48 := by
          rw [List.map_map]
          exact List.map_id' _
        rw [e1]
        refine trim_self fun q => hlast ?_
        rw [List.getLast?_map] at q
        obtain ⟨c, hc, hq⟩ := Option.map_eq_some_iff.1 q
        rw [hc]
        congr 1
        have := h012 c (List.mem_of_mem_getLast? hc)
        omega
      rw [et] at hx
      exact k _ ep x F ((s2.trans s1).trans sF) hx
end

end YY

set_option maxRecDepth 100000
set_option maxHeartbeats 4000000
namespace YY
open PySem PySem.Spec PyProof.Rows L2 XX
local macro_rules | `(tactic| walk_at "wp") => `(tactic| simp only [Int.zero_add, L2.start, LcEnd, List.append_nil, List.cons.injEq, List.cons_append, List.getElem?_cons_succ, List.getElem?_cons_zero, List.length_cons, List.length_nil, List.map_cons, List.map_nil, List.nil_append, List.replicate, List.replicate_succ, List.replicate_zero, List.set_cons_succ, List.set_cons_zero, Nat.reduceAdd, Nat.reduceSub, Option.some.injEq, StX.tMakeR, StX.tStar, V.bl.injEq, V.int.injEq, V.ref.injEq, V.str.injEq, V.ty.injEq, WE, and_assoc, and_false, and_true, bool_ite_false, bool_ite_true, cxOf_K, cxOf_noxK, dec_ite, decide_eq_true_eq, exists_and_left, exists_and_right, exists_const, exists_eq_left, exists_eq_left', false_and, false_or, gCons, gName, gNil, gSub, gTup, iEnumA, iItems, iKeys, iList, iRng1, iRng2, iStr, iTup, iZipB, ite_false, ite_true, ndec_ite, or_false, rAppend, rCat, rCatT, rEq, rEqI, rEqK, rEqV, rExt2, rI, rI0, rIn, rInRg, rIndex, rIsD, rIsE, rIsE2, rIxD, rIxL, rIxS, rIxT, rLenI, rLenK, rListStr, rMax, rMaxDef, rSetIM, rEqT, sFldAug, rAdd, rMin, rMulS, rNe, rNeDA, rNeV, rRange1, rRep, rRepA, rReprE, rReprI, rSetD, rSetI, rSetL, rSlL, rSlT, rSortedSet, rU, reduceCtorEq, reduceIte, sFld, tAnd, tAndV, tAsg, tAug, tB, tBM, tBM0, tC, tCB, tCKw, tDGetT, tCall, tCallS, tChain, tCons, tDGet, tDIn, tDNewK, tDNotIn, tDcT_eq, tDc_eq, tDisp, tDrop, tErr, tFld, tFor_eq, tIf, tIfS, tIxI, tLc2_eq, tLc_eq, tLenSetS, tLock, tLockE, tLst, tLstRg, tM1, tMakeRS, tMakeS, tMakeV, tMakeVS, tMeth, tMethX, tMkO, tMulA, tMulD, tNext, tNil, tNoPart, tNot, tNotV, tOp, tOpI, tOpR, tOr, tOrV, tOst, tPairs, tPar, tPar3, tPart, tRet, tRetN, tRevT, tRg2, tSMeth, tSeq, tSl, tTest, tTup, tUn, tVar, tVeI, tXf, tYes, true_and, wAs, wMA, wipe, rTupOf])
/-! ### _law_line, _law_text -/
abbrev sLLine : Stmt := topS 55
abbrev sLText : Stmt := topS 56
def lineJ (ds : List PyData) : Str := Txt.join " " (ds.map partT)
def lawLs (g : PrD) : List Str := ("values " ++ Str.ofString (toString g.size) : Str) :: ("registers " ++ Txt.join " " g.ws : Str) :: g.ds.map fun d => lineJ (itemsD d)
def lawT (g : PrD) : Str := Txt.join "\n" (lawLs g) ++ "\n"
theorem joinL_nil : ∀ ps : List (List Nat), TL.joinL [] ps = ps.flatten
  | [] => rfl
  | [p] => by simp [TL.joinL]
  | p :: q :: r => by
    show p ++ ([] ++ TL.joinL [] (q :: r)) = _
    rw [List.nil_append, joinL_nil (q :: r)]
    rfl
theorem joinL_end (S : List Nat) : ∀ {ps : List (List Nat)}, ps ≠ [] → TL.joinL S ps ++ S = (ps.map fun p => p ++ S).flatten
  | [p], _ => by simp [TL.joinL]
  | p :: q :: r, _ => by
    show p ++ (S ++ TL.joinL S (q :: r)) ++ S = (p ++ S) ++ ((q :: r).map fun p => p ++ S).flatten
    rw [← joinL_end S (by simp), List.append_assoc, List.append_assoc, List.append_assoc]
theorem tl_lineT (ds : List PyData) : TL.tl (lineT ds) = TL.tl (lineJ ds) ++ TL.tl ("\n" : Str) := by
  unfold lineT lineJ
  rw [TL.tl_append, TL.tl_append]
  rfl
theorem law_prog {g : PrD} (hw : g.ws ≠ []) : lawT g = progT g := by
  apply TL.ext_tl
  unfold lawT progT
  rw [TL.tl_append, TL.join_eq, TL.tl_join, TL.join_eq, TL.tl_join, joinL_end _ (by simp [lawLs])]
  have e0 : TL.tl Str.empty = [] := rfl
  rw [e0, joinL_nil]
  congr 1
  have key : (lawLs g).map (fun z => TL.tl z ++ TL.tl ("\n" : Str)) = (headsD g ++ g.ds).map fun d => TL.tl (lineT (itemsD d)) := by
    unfold lawLs headsD
    rw [List.map_cons, List.map_cons, List.cons_append, List.cons_append, List.nil_append, List.map_cons, List.map_cons, List.map_map]
    congr 1
    · rw [tl_lineT]
      rfl
    congr 1
    · have em : ((itemsD (.tuple (.str "registers" :: g.ws.map PyData.str))).map partT) = ("registers" : Str) :: g.ws := by
        show (("registers" : Str) :: (g.ws.map PyData.str).map partT) = _
        rw [List.map_map]
        congr 1
        exact List.map_id' _
      rw [tl_lineT]
      unfold lineJ
      rw [em, TL.tl_append, TL.join_eq, TL.tl_join, TL.join_eq, TL.tl_join]
      obtain ⟨a, r, e⟩ := List.exists_cons_of_ne_nil hw
      rw [e]
      rfl
    · refine List.map_congr_left fun d _ => ?_
      rw [tl_lineT]
      rfl
  rw [List.map_map, List.map_map]
  exact key
theorem lawLs_len {g : PrD} (ok : PtOk g) {z : Str} (h : z ∈ lawLs g) : z.length ≤ 10100 := by
  unfold lawLs at h
  rcases List.mem_cons.1 h with rfl | h
  · obtain ⟨n, en, hn⟩ := ok.size
    have il := intT_len hn
    rw [TL.len_tl, TL.tl_append, List.length_append, ← TL.len_tl, ← TL.len_tl, en]
    show 7 + _ ≤ _
    omega
  rcases List.mem_cons.1 h with rfl | h
  · have ls : (g.ws.map (·.length)).sum ≤ 8000 := Nat.le_trans (sum_le' (b := 1000) fun z hz' => ok.ws z hz') (by have := ok.wsL; omega)
    have jl := join_len " " g.ws
    have e1 : (" " : Str).length = 1 := rfl
    have wl := ok.wsL
    rw [e1] at jl
    rw [TL.len_tl, TL.tl_append, List.length_append, ← TL.len_tl, ← TL.len_tl]
    show 10 + _ ≤ _
    omega
  · obtain ⟨d, hd, rfl⟩ := List.mem_map.1 h
    obtain ⟨ps, rfl, hps, hpl⟩ := ok.rows d hd
    have e := line_len hps hpl
    rw [TL.len_tl, tl_lineT, List.length_append, ← TL.len_tl] at e
    show (lineJ ps).length ≤ _
    omega
section
variable {P : Program} {w : World} {K : PySem.W.Frag} {mg : Str → Option Value} {base : Heap}
def spLLine (K : PySem.W.Frag) : Sp := fun vs H Q _ => ∃ (t : Addr) (xs : List V) (ds : List PyData), vs = [.ref t] ∧ SqT K H t xs ∧ DpAll K H xs ds ∧ (∀ d ∈ ds, IsPt d) ∧ ds.length ≤ 1000 ∧ ∀ G, Same H G → Q (.str (lineJ ds)) G
theorem scLLine : FnScope ["row", "found", "part"] ["row"] (defScope sLLine) := ⟨rfl, rfl, rfl, by decide +kernel, rfl, by decide +kernel, by decide +kernel⟩
theorem c_lLine (D : Def K mg "_law_line" sLLine ["row"]) (T : Bl2 mg) (n_str : mg "str" = none) : FnC P w K mg base CX0 1 "_law_line" ["row"] (spLLine K) := by
  refine D.ok scLLine (fun vs H Q E h => ?_) (fun f' cdv A outer s H vs Q E hr h => ?_)
  · obtain ⟨t, xs, ds, rfl, _⟩ := h
    rfl
  · obtain ⟨t, xs, ds, rfl, ht, hd, hp, hl, k⟩ := h
    have sc := scLLine
    refine ⟨_, (pss_cut (ps_set (i := 1) sc.nd rfl (Or.inl rfl) (pe_lst pa_nil))
      (pss_cut (ps_for PassesOwn.never rfl (pi_tup (pv 0)) (pg_name (i := 2) sc.nd rfl (Or.inl rfl)) (pss_one (ps_expr (pe_bm PySem.F.plainAttrs_list PySem.F.slot_list_append PySem.F.type_list_append mt_append (pv 1) (pa_cons (pe_ifExp (pt_cmpR op_isN (pv 2) pe_non (nomark _)) pe_str (pe_callTy (CallR.or call_str_int SkE.call_str_str) (by rfl) n_str (by decide +kernel) (pa_cons (pv 2) pa_nil))) pa_nil)))))
      (pss_one (ps_ret (pe_join pe_str (pv 1)))))), ?_⟩
    refine cut_hide (fun τ G => ∃ D, τ = [some (.ref t), some (.ref D), none] ∧ Same H G ∧ H D = none ∧ G D = some (.lst [])) (fun M' hM => ?_) ?_
    · walk_at "wp"
      exact ⟨by decide, fun D nD => hM _ _ ⟨D, rfl, same_new nD, nD, upd_same⟩⟩
    rintro τ G ⟨D, rfl, s0, nD, hD⟩
    have hz := sizeLine_eq
    refine cut_hide (fun τ G => (∃ u, τ = [some (.ref t), some (.ref D), u]) ∧ Same H G ∧ G D = some (.lst ((ds.map partT).map V.str))) (fun M' hM => ?_) ?_
    · walk_at "wp"
      refine ⟨⟨_, Same.sqT s0 ht⟩, ?_⟩
      refine loop_it (walk_tup (xs := xs)) (fun i τ F => (∃ u, τ = [some (.ref t), some (.ref D), u]) ∧ Same H F ∧ F D = some (.lst (((ds.take i).map partT).map V.str))) ⟨⟨_, rfl⟩, s0, hD⟩ (fun i τ F _ h => Same.sqT h.2.1 ht) ?_ ?_
      · rintro i v τ F1 F2 hi ⟨⟨u, rfl⟩, s1, hF⟩ ⟨rfl, hv⟩
        walk_at "wp"
        obtain ⟨d, hd1, hd2⟩ := dps_get hd hv
        have hlen : i < ds.length := (List.getElem?_eq_some_iff.1 hd1).1
        have step : ∀ z : Str, z = partT d → ∃ xs, F2 D = some (.lst xs) ∧ xs.length < sizeLine ∧ (∃ u, some v = u) ∧ Same H (upd F2 D (.lst (xs ++ [V.str z]))) ∧ (upd F2 D (.lst (xs ++ [V.str z]))) D = some (.lst (((ds.take (i + 1)).map partT).map V.str)) := fun z e => by
          refine ⟨_, hF, by rw [List.length_map, List.length_map, List.length_take]; omega, ⟨_, rfl⟩, same_mut s1 nD, ?_⟩
          rw [upd_same, List.take_add_one, hd1, e]
          simp
        refine ⟨.inl ⟨rfl, _, SqL.of hF⟩, ?_⟩
        rcases hp d (List.mem_of_getElem? hd1) with rfl | ⟨z, rfl, hzl⟩ | ⟨n, rfl, hn⟩
        · cases hd2
          exact Eq.mpr (if_pos rfl) (step _ rfl)
        · cases hd2
          exact Eq.mpr (if_neg (fun z => nomatch z)) (.inr ⟨_, rfl, step _ rfl⟩)
        · cases hd2
          exact Eq.mpr (if_neg (fun z => nomatch z)) (.inl ⟨_, rfl, (by
            have : ((n : Nat) : Int).natAbs = n := rfl
            rw [this]
            exact Nat.lt_of_le_of_lt (Nat.log2_le_self n) (by omega)), step _ rfl⟩)
      · rintro τ F ⟨⟨u, rfl⟩, s1, hF⟩
        have el : xs.length = ds.length := dpAll_len hd
        rw [el, List.take_length] at hF
        exact hM _ _ ⟨⟨u, rfl⟩, s1, hF⟩
    rintro τ G2 ⟨⟨u, rfl⟩, s2, hD2⟩
    walk_at "wp"
    have ps := parts_sum hp
    exact ⟨⟨_, rfl⟩, _, .inl (SqL.of hD2), by rw [List.length_map]; show _ + _ * 1 ≤ _; omega, k _ s2⟩
def spLText (K : PySem.W.Frag) : Sp := fun vs H Q _ => ∃ (d ra wa : Addr) (rs : List V) (g : PrD), vs = [.ref d] ∧ H d = some (.dK (planKV ra wa g.size)) ∧ SqT K H wa (g.ws.map V.str) ∧ SqT K H ra rs ∧ DpAll K H rs g.ds ∧ PtOk g ∧ ∀ G, Same H G → Q (.str (lawT g)) G
theorem scLText : FnScope ["plan", "lines", "row"] ["plan"] (defScope sLText) := ⟨rfl, rfl, rfl, by decide +kernel, rfl, by decide +kernel, by decide +kernel⟩
theorem c_lText (D : Def K mg "_law_text" sLText ["plan"]) (T : Bl2 mg) (n_str : mg "str" = none) (cL : FnC P w K mg base CX0 1 "_law_line" ["row"] (spLLine K)) : FnC P w K mg base CX0 2 "_law_text" ["plan"] (spLText K) := by
  refine D.ok scLText (fun vs H Q E h => ?_) (fun f' cdv A outer s H vs Q E hr h => ?_)
  · obtain ⟨d, ra, wa, rs, g, rfl, _⟩ := h
    rfl
  · obtain ⟨d, ra, wa, rs, g, rfl, hd, hwa, hra, hrs, ok, k⟩ := h
    have sc := scLText
    have hz := sizeLine_eq
    have hu := hu_of hr
    refine ⟨_, (pss_cut (ps_set (i := 1) sc.nd rfl (Or.inl rfl) (pe_lst (pa_cons (pe_op op_add_str pe_str (pe_callTy call_str_int (by rfl) n_str (by decide +kernel) (pa_cons (pe_dget hu (pv 0) pe_str (fun _ _ => rfl)) pa_nil))) (pa_cons (pe_op op_add_str pe_str (pe_join pe_str (pe_dget hu (pv 0) pe_str (fun _ _ => rfl)))) pa_nil))))
      (pss_cut (ps_set (i := 1) sc.nd rfl (Or.inl rfl) (pe_op op_cat (pv 1) (pe_lc (own := [("row", 2)]) (g := gName 2) (tt := tYes) rfl sc.nd (pi_tup (pe_dget hu (pv 0) pe_str (fun _ _ => rfl))) (blkOk_by (N := ["plan", "lines", "row"]) (sc := defScope sLText) (by decide +kernel)) (fun _ _ _ _ _ => (pg_name (i := 2) sc.nd rfl (Or.inl rfl))) (fun _ _ _ _ _ => pts_nil) (fun _ _ _ _ _ => (pe_c cL hr rfl (pa_cons (pv 2) pa_nil))))))
      (pss_one (ps_ret (pe_op op_add_str (pe_join pe_str (pv 1)) pe_str))))), ?_⟩
    refine cut_hide (fun τ G => ∃ l, τ = [some (.ref d), some (.ref l), none] ∧ Same H G ∧ G l = some (.lst ((lawLs g).take 2 |>.map V.str))) (fun M' hM => ?_) ?_
    · walk_at "wp"
      obtain ⟨n, en, hn⟩ := ok.size
      have il := intT_len hn
      have ls : (g.ws.map (·.length)).sum ≤ 8000 := Nat.le_trans (sum_le' (b := 1000) fun z hz' => ok.ws z hz') (by have := ok.wsL; omega)
      have jl := join_len " " g.ws
      have e1 : (" " : Str).length = 1 := rfl
      have e2 : ("values " : Str).length = 7 := rfl
      have e3 : ("registers " : Str).length = 10 := rfl
      have wl := ok.wsL
      rw [e1] at jl
      refine ⟨_, .inl ⟨planKV ra wa g.size, .inr "size", .inl hd, rfl, rfl⟩, g.size, rfl, ?_, ?_, ⟨_, rfl⟩, _, .inl ⟨planKV ra wa g.size, .inr "words", .inl hd, rfl, rfl⟩, wa, rfl, g.ws, .inr hwa, ?_, ?_, by decide, fun p np => hM _ _ ⟨p, rfl, same_new np, upd_same⟩⟩
      · rw [en]
        show n.log2 < 1920
        exact Nat.lt_of_le_of_lt (Nat.log2_le_self n) (by omega)
      · rw [e2, en]
        omega
      · rw [e1]
        omega
      · rw [e3]
        omega
    rintro τ G ⟨l, rfl, s1, hl⟩
    refine cut_hide (fun τ G => ∃ l, τ = [some (.ref d), some (.ref l), none] ∧ Same H G ∧ G l = some (.lst ((lawLs g).map V.str))) (fun M' hM => ?_) ?_
    · walk_at "wp"
      refine ⟨_, .inl ⟨planKV ra wa g.size, .inr "rows", .inl (s1 _ _ hd), rfl, rfl⟩, ra, rfl, ⟨_, Same.sqT s1 hra⟩, ?_⟩
      have few := ok.few
      refine lcw_it (walk_tup (xs := rs)) (fun D i F => Same G F ∧ G D = none ∧ F D = some (.lst (((g.ds.take i).map fun d => lineJ (itemsD d)).map V.str))) (fun D hD => ⟨same_new hD, hD, upd_same⟩) (fun D i F _ h => Same.sqT (s1.trans h.1) hra) ?_ ?_
      · rintro D i v F1 F2 hD hi ⟨sF, nD, hF⟩ ⟨rfl, hv⟩
        walk_at "wp"
        obtain ⟨d1, hd1, hd2⟩ := dps_get hrs hv
        obtain ⟨ps, rfl, hps, hpl⟩ := ok.rows d1 (List.mem_of_getElem? hd1)
        have hlen : i < g.ds.length := (List.getElem?_eq_some_iff.1 hd1).1
        cases hd2 with
        | tup a b =>
          refine ⟨_, _, ps, rfl, Same.sqT (s1.trans sF) a, dps_same (s1.trans sF) _ _ b, hps, by omega, fun G3 sG => ⟨_, sG _ _ hF, by rw [List.length_map, List.length_map, List.length_take]; omega, same_mut (sF.trans sG) nD, nD, ?_⟩⟩
          rw [upd_same, List.take_add_one, hd1]
          simp [itemsD]
      · rintro D F hD ⟨sF, nD, hF⟩
        have el : rs.length = g.ds.length := dpAll_len hrs
        rw [el, List.take_length] at hF
        refine ⟨D, rfl, _, sF _ _ hl, _, hF, by rw [List.length_map, List.length_map, List.length_map]; show 2 + _ ≤ _; omega, fun p np => hM _ _ ⟨p, rfl, (s1.trans sF).trans (same_new np), ?_⟩⟩
        rw [upd_same]
        rfl
    rintro τ G2 ⟨l2, rfl, s2, hl2⟩
    walk_at "wp"
    have few := ok.few
    refine ⟨⟨_, rfl⟩, _, .inl (SqL.of hl2), ?_, ?_, k _ s2⟩
    · have := sum_le' (f := fun z : Str => z.length) (b := 10100) (l := lawLs g) fun z hz' => lawLs_len ok hz'
      have l26 : (lawLs g).length ≤ 26 := by
        unfold lawLs
        rw [List.length_cons, List.length_cons, List.length_map]
        omega
      show _ + _ * 1 ≤ _
      omega
    · have j := join_len "\n" (lawLs g)
      have := sum_le' (f := fun z : Str => z.length) (b := 10100) (l := lawLs g) fun z hz' => lawLs_len ok hz'
      have l26 : (lawLs g).length ≤ 26 := by
        unfold lawLs
        rw [List.length_cons, List.length_cons, List.length_map]
        omega
      have e1 : ("\n" : Str).length = 1 := rfl
      rw [e1] at j ⊢
      omega
end

end YY

set_option maxRecDepth 100000
set_option maxHeartbeats 4000000
namespace YY
open PySem PySem.Spec PyProof.Rows L2 XX
local macro_rules | `(tactic| walk_at "wp") => `(tactic| simp only [Int.zero_add, L2.start, LcEnd, List.append_nil, List.cons.injEq, List.cons_append, List.getElem?_cons_succ, List.getElem?_cons_zero, List.length_cons, List.length_nil, List.map_cons, List.map_nil, List.nil_append, List.replicate, List.replicate_succ, List.replicate_zero, List.set_cons_succ, List.set_cons_zero, Nat.reduceAdd, Nat.reduceSub, Option.some.injEq, StX.tMakeR, StX.tStar, V.bl.injEq, V.int.injEq, V.ref.injEq, V.str.injEq, V.ty.injEq, WE, and_assoc, and_false, and_true, bool_ite_false, bool_ite_true, cxOf_K, cxOf_noxK, dec_ite, decide_eq_true_eq, exists_and_left, exists_and_right, exists_const, exists_eq_left, exists_eq_left', false_and, false_or, gCons, gName, gNil, gSub, gTup, iEnumA, iItems, iKeys, iList, iRng1, iRng2, iStr, iTup, iZipB, ite_false, ite_true, ndec_ite, or_false, rAppend, rCat, rCatT, rEq, rEqI, rEqK, rEqV, rExt2, rI, rI0, rIn, rInRg, rIndex, rIsD, rIsE, rIsE2, rIxD, rIxL, rIxS, rIxT, rLenI, rLenK, rListStr, rMax, rMaxDef, rSetIM, rEqT, sFldAug, rAdd, rMin, rMulS, rNe, rNeDA, rNeV, rRange1, rRep, rRepA, rReprE, rReprI, rSetD, rSetI, rSetL, rSlL, rSlT, rSortedSet, rU, reduceCtorEq, reduceIte, sFld, tAnd, tAndV, tAsg, tAug, tB, tBM, tBM0, tC, tCB, tCKw, tDGetT, tCall, tCallS, tChain, tCons, tDGet, tDIn, tDNewK, tDNotIn, tDcT_eq, tDc_eq, tDisp, tDrop, tErr, tFld, tFor_eq, tIf, tIfS, tIxI, tLc2_eq, tLc_eq, tLenSetS, tLock, tLockE, tLst, tLstRg, tM1, tMakeRS, tMakeS, tMakeV, tMakeVS, tMeth, tMethX, tMkO, tMulA, tMulD, tNext, tNil, tNoPart, tNot, tNotV, tOp, tOpI, tOpR, tOr, tOrV, tOst, tPairs, tPar, tPar3, tPart, tRet, tRetN, tRevT, tRg2, tSMeth, tSeq, tSl, tTest, tTup, tUn, tVar, tVeI, tXf, tYes, true_and, wAs, wMA, wipe, rTupOf])
/-! ### _law_heard -/
abbrev sHeard : Stmt := topS 57
structure Exm3 (K : PySem.W.Frag) (cP cD cR : Addr) : Prop where
  PP : PySem.W.exmOne K (.ref cP) (.ref cP) = some true
  DP : PySem.W.exmOne K (.ref cD) (.ref cP) = some false
  DD : PySem.W.exmOne K (.ref cD) (.ref cD) = some true
  RP : PySem.W.exmOne K (.ref cR) (.ref cP) = some false
  RD : PySem.W.exmOne K (.ref cR) (.ref cD) = some false
  RR : PySem.W.exmOne K (.ref cR) (.ref cR) = some true
/-- [kind, v], a new list -/
def Told (H : Hp) (kind : Str) (v : V) (Q : VK) (Ok : Hp → Prop) : Prop := ∀ q G, Same H G → H q = none → Ok G → G q = some (.lst [.str kind, v]) → Q (.ref q) G
def HeardP (K : PySem.W.Frag) (CP CD : Addr) (H : Hp) (v : V) (Q : VK) : Int → Prop
  | 0 => (∃ x g, v = .ref x ∧ ProgAt K CP H x g ∧ PtOk g ∧ Told H "told" (.str (progT g)) Q fun _ => True) ∨ (NoProg K CP H v ∧ ∃ d, Dp K H v d ∧ Rp d ∧ Told H "program" (.str d.shown) Q fun _ => True)
  | 1 => (∃ d, Dp K H v d ∧ (∀ z, d ≠ .str z) ∧ Rp d ∧ Told H "text" (.str d.shown) Q fun _ => True) ∨ ∃ z, v = .str z ∧ OkT z ∧ (parseG z = none → Told H "text" (.str (PyData.str z).shown) Q fun _ => True) ∧ ∀ g, parseG z = some g → ∀ y, Told H "told" (.ref y) Q fun G => ProgAt K CP G y g
  | 2 => (∃ x ns, v = .ref x ∧ DatAt K CD H x ns ∧ (∀ n ∈ ns, 0 ≤ n ∧ n ≤ 2) ∧ ns.length ≤ 60 ∧ Told H "told" (.str (dataT ns)) Q fun _ => True) ∨ (NoProg K CD H v ∧ ∃ d, Dp K H v d ∧ Rp d ∧ Told H "data" (.str d.shown) Q fun _ => True)
  | 3 => (∃ d, Dp K H v d ∧ (∀ z, d ≠ .str z) ∧ Rp d ∧ Told H "text" (.str d.shown) Q fun _ => True) ∨ ∃ z, v = .str z ∧ OkT z ∧ (parseDs z = none → Told H "text" (.str (PyData.str z).shown) Q fun _ => True) ∧ ∀ ns, parseDs z = some ns → ∀ x, Told H "told" (.ref x) Q fun G => DatAt K CD G x ns
  | _ => False
theorem rp_text {z : Str} (h : OkT z) : Rp (.str z) := (sml_str (n := 900) h.len (by decide) fun c hc => by
  have q := h.cps
  rw [← Array.all_toList, List.all_eq_true] at q
  simpa using q c hc).rp (by decide) (by decide)
section
variable {P : Program} {w : World} {K : PySem.W.Frag} {mg : Str → Option Value} {base : Heap}
def spHeard (K : PySem.W.Frag) (CP CD : Addr) : Sp := fun vs H Q _ => ∃ (way : Int) (v : V), vs = [.int way, v] ∧ HeardP K CP CD H v Q way
theorem scHeard : FnScope ["way", "thing", "e"] ["way", "thing"] (defScope sHeard) := ⟨rfl, rfl, rfl, by decide +kernel, rfl, by decide +kernel, by decide +kernel⟩
theorem c_heard {CP CD cP cB cT fI : Addr} (D : Def K mg "_law_heard" sHeard ["way", "thing"]) (n_repr : mg "repr" = none) (EP : ErrC K mg "BadProgram" cP fI) (EB : ErrC K mg "BadData" cB fI) (ET : ErrC K mg "BadText" cT fI) (X3 : Exm3 K cP cB cT)
    (c0 : FnC P w K mg base (L2.CX P w) 4 "format_program" ["program"] (spFormatP K CP cP)) (c1 : FnC P w K mg base (L2.CX P w) 8 "parse_program" ["text"] (spParseP K CP cT)) (c2 : FnC P w K mg base (L2.CX P w) 3 "format_data" ["data"] (spFormatD K CD cB)) (c3 : FnC P w K mg base (L2.CX P w) 8 "parse_data" ["text"] (spParseD K CD cT)) : FnD P w K mg base CX0 9 "_law_heard" ["way", "thing"] (spHeard K CP CD) := by
  refine D.okG scHeard (fun vs H Q E h => ?_) (fun f' cdv A outer s H vs Q E hgu hr h => ?_)
  · obtain ⟨way, v, rfl, _⟩ := h
    rfl
  · obtain ⟨way, v, rfl, h⟩ := h
    have sc := scHeard
    have hr4 : Room 4 _ := hr.mono (by decide)
    have hr8 : Room 8 _ := hr.mono (by decide)
    have hr3 : Room 3 _ := hr.mono (by decide)
    have hu80 : (A.deeper (envOfC "_law_heard" (defScope sHeard) s.heap.objs.size f' cdv)).units + 80 < cLine := by have := hr.un; omega
    refine ⟨_, (pss_one (ps_try_mas (i := 2) (n := "e") (Wout := fun _ _ _ _ => False) rfl rfl sc.nd rfl rfl takes0'
        (fun W pn xe tkW hp => (pss_cons (ps_if (pt_cmpR op_eq (pv 0) pe_int (nomark _)) (pss_one (ps_ret (pe_lst (pa_cons pe_str (pa_cons (pe_cX (E := WE W) c0 hr4 (fun σ => passAt tkW σ) rfl (pa_cons (pv 1) pa_nil)) pa_nil))))) pss_nil)
          (pss_cons (ps_if (pt_cmpR op_eq (pv 0) pe_int (nomark _)) (pss_one (ps_ret (pe_lst (pa_cons pe_str (pa_cons (pe_cX (E := WE W) c1 hr8 (fun σ => passAt tkW σ) rfl (pa_cons (pv 1) pa_nil)) pa_nil))))) pss_nil)
          (pss_one (ps_ret (pe_lst (pa_cons pe_str (pa_cons (pe_ifExp (pt_cmpR op_eq (pv 0) pe_int (nomark _)) (pe_cX (E := WE W) c2 hr3 (fun σ => passAt tkW σ) rfl (pa_cons (pv 1) pa_nil)) (pe_cX (E := WE W) c3 hr8 (fun σ => passAt tkW σ) rfl (pa_cons (pv 1) pa_nil))) pa_nil))))))))
        (HdsAs.cons ⟨rfl, by decide, .inl EP.g⟩ (fun a oe cls d pn hz hf => pss_one (ps_ret (pe_lst (pa_cons pe_str (pa_cons (pe_callB (call_reprEK K rfl hgu hu80) (by rfl) n_repr (by decide +kernel) (pa_cons (pe_xf EP.xf EP.no hz hf (pv 2)) pa_nil)) pa_nil)))))
        (HdsAs.cons ⟨rfl, by decide, .inl EB.g⟩ (fun a oe cls d pn hz hf => pss_one (ps_ret (pe_lst (pa_cons pe_str (pa_cons (pe_callB (call_reprEK K rfl hgu hu80) (by rfl) n_repr (by decide +kernel) (pa_cons (pe_xf EB.xf EB.no hz hf (pv 2)) pa_nil)) pa_nil)))))
        (HdsAs.cons ⟨rfl, by decide, .inl ET.g⟩ (fun a oe cls d pn hz hf => pss_one (ps_ret (pe_lst (pa_cons pe_str (pa_cons (pe_callB (call_reprEK K rfl hgu hu80) (by rfl) n_repr (by decide +kernel) (pa_cons (pe_xf ET.xf ET.no hz hf (pv 2)) pa_nil)) pa_nil)))))
        HdsAs.nil))))), ?_⟩
    walk_at "wp"
    have hsz := sizeLine_eq
    have fin : ∀ {kind : Str} {d : PyData} {G : Hp} {d1 : Addr}, Same H G → G d1 = none → Dp K H v d → Rp d → Told H kind (.str d.shown) Q (fun _ => True) → ∃ x, DpE K (upd G d1 (.xd [("value", v)])) v x ∧ Rp x ∧ 2 ≤ sizeLine ∧ ∀ p, (upd G d1 (.xd [("value", v)])) p = none → Q (.ref p) (upd (upd G d1 (.xd [("value", v)])) p (.lst [V.str kind, V.str x.shown])) := fun {kind d G d1} gs hd1 hv rp told => by
      have gs2 := gs.trans (same_new (o := .xd [("value", v)]) hd1)
      exact ⟨d, .inl (dp_same gs2 _ _ hv), rp, by omega, fun p hp => told p _ (gs2.trans (same_new hp)) (none_back gs2 hp) True.intro upd_same⟩
    match way, h with
    | 0, h =>
      refine ⟨rfl, Eq.mpr (if_pos rfl) ⟨_, rfl, ?_⟩⟩
      rcases h with ⟨x, g, rfl, hx, ok, told⟩ | ⟨hno, d, hd, rp, told⟩
      · exact .inl ⟨x, g, rfl, hx, ok, fun G s => ⟨by omega, fun p np => told p _ (s.trans (same_new np)) (none_back s np) True.intro upd_same⟩⟩
      · refine .inr ⟨hno, fun G d1 gs hd1 => ?_⟩
        refine ⟨true, X3.PP, fun _ a ha => ?_, fun h => nomatch h⟩
        walk_at "wp"
        exact ⟨_, upd_same, v, rfl, fin gs hd1 hd rp told⟩
    | 1, h =>
      refine ⟨rfl, Eq.mpr (if_neg (by decide)) ⟨rfl, Eq.mpr (if_pos rfl) ⟨_, rfl, ?_⟩⟩⟩
      rcases h with ⟨d, hd, hns, rp, told⟩ | ⟨z, rfl, ok, e, k⟩
      · refine .inl ⟨d, hd, hns, fun G d1 gs hd1 => ?_⟩
        refine ⟨false, X3.RP, (fun h => nomatch h), fun _ => ⟨false, X3.RD, (fun h => nomatch h), fun _ => ⟨true, X3.RR, fun _ a ha => ?_, fun h => nomatch h⟩⟩⟩
        walk_at "wp"
        exact ⟨_, upd_same, v, rfl, fin gs hd1 hd rp told⟩
      · refine .inr ⟨z, rfl, ok, fun en G d1 gs hd1 => ?_, fun g eg y G s ny hy => ⟨by omega, fun p np => k g eg y p _ (s.trans (same_new np)) (none_back s np) (hy.same (same_new np)) upd_same⟩⟩
        refine ⟨false, X3.RP, (fun h => nomatch h), fun _ => ⟨false, X3.RD, (fun h => nomatch h), fun _ => ⟨true, X3.RR, fun _ a ha => ?_, fun h => nomatch h⟩⟩⟩
        walk_at "wp"
        exact ⟨_, upd_same, _, rfl, fin gs hd1 (.str z) (rp_text ok) (e en)⟩
    | 2, h =>
      refine ⟨rfl, Eq.mpr (if_neg (by decide)) ⟨rfl, Eq.mpr (if_neg (by decide)) ⟨rfl, Eq.mpr (if_pos rfl) ⟨_, rfl, ?_⟩⟩⟩⟩
      rcases h with ⟨x, ns, rfl, hx, hv, hl, told⟩ | ⟨hno, d, hd, rp, told⟩
      · exact .inl ⟨x, ns, rfl, hx, hv, hl, fun G s => ⟨by omega, fun p np => told p _ (s.trans (same_new np)) (none_back s np) True.intro upd_same⟩⟩
      · refine .inr ⟨hno, fun G d1 gs hd1 => ?_⟩
        refine ⟨false, X3.DP, (fun h => nomatch h), fun _ => ⟨true, X3.DD, fun _ a ha => ?_, fun h => nomatch h⟩⟩
        walk_at "wp"
        exact ⟨_, upd_same, v, rfl, fin gs hd1 hd rp told⟩
    | 3, h =>
      refine ⟨rfl, Eq.mpr (if_neg (by decide)) ⟨rfl, Eq.mpr (if_neg (by decide)) ⟨rfl, Eq.mpr (if_neg (by decide)) ⟨_, rfl, ?_⟩⟩⟩⟩
      rcases h with ⟨d, hd, hns, rp, told⟩ | ⟨z, rfl, ok, e, k⟩
      · refine .inl ⟨d, hd, hns, fun G d1 gs hd1 => ?_⟩
        refine ⟨false, X3.RP, (fun h => nomatch h), fun _ => ⟨false, X3.RD, (fun h => nomatch h), fun _ => ⟨true, X3.RR, fun _ a ha => ?_, fun h => nomatch h⟩⟩⟩
        walk_at "wp"
        exact ⟨_, upd_same, v, rfl, fin gs hd1 hd rp told⟩
      · refine .inr ⟨z, rfl, by have := ok.len; omega, fun en G d1 gs hd1 => ?_, fun ns eg x G s hx => ⟨by omega, fun p np => k ns eg x p _ (s.trans (same_new np)) (none_back s np) (datAt_same (same_new np) hx) upd_same⟩⟩
        refine ⟨false, X3.RP, (fun h => nomatch h), fun _ => ⟨false, X3.RD, (fun h => nomatch h), fun _ => ⟨true, X3.RR, fun _ a ha => ?_, fun h => nomatch h⟩⟩⟩
        walk_at "wp"
        exact ⟨_, upd_same, _, rfl, fin gs hd1 (.str z) (rp_text ok) (e en)⟩
end

end YY

set_option maxRecDepth 100000
set_option maxHeartbeats 4000000
namespace YY
open PySem PySem.Spec PyProof.Rows L2 XX
local macro_rules | `(tactic| walk_at "wp") => `(tactic| simp only [Int.zero_add, L2.start, LcEnd, List.append_nil, List.cons.injEq, List.cons_append, List.getElem?_cons_succ, List.getElem?_cons_zero, List.length_cons, List.length_nil, List.map_cons, List.map_nil, List.nil_append, List.replicate, List.replicate_succ, List.replicate_zero, List.set_cons_succ, List.set_cons_zero, Nat.reduceAdd, Nat.reduceSub, Option.some.injEq, StX.tMakeR, StX.tStar, V.bl.injEq, V.int.injEq, V.ref.injEq, V.str.injEq, V.ty.injEq, WE, and_assoc, and_false, and_true, bool_ite_false, bool_ite_true, cxOf_K, cxOf_noxK, dec_ite, decide_eq_true_eq, exists_and_left, exists_and_right, exists_const, exists_eq_left, exists_eq_left', false_and, false_or, gCons, gName, gNil, gSub, gTup, iEnumA, iItems, iKeys, iList, iRng1, iRng2, iStr, iTup, iZipB, ite_false, ite_true, ndec_ite, or_false, rAppend, rCat, rCatT, rEq, rEqI, rEqK, rEqV, rExt2, rI, rI0, rIn, rInRg, rIndex, rIsD, rIsE, rIsE2, rIxD, rIxL, rIxS, rIxT, rLenI, rLenK, rListStr, rMax, rMaxDef, rSetIM, rEqT, sFldAug, rAdd, rMin, rMulS, rNe, rNeDA, rNeV, rRange1, rRep, rRepA, rReprE, rReprI, rSetD, rSetI, rSetL, rSlL, rSlT, rSortedSet, rU, reduceCtorEq, reduceIte, sFld, tAnd, tAndV, tAsg, tAug, tB, tBM, tBM0, tC, tCB, tCKw, tDGetT, tCall, tCallS, tChain, tCons, tDGet, tDIn, tDNewK, tDNotIn, tDcT_eq, tDc_eq, tDisp, tDrop, tErr, tFld, tFor_eq, tIf, tIfS, tIxI, tLc2_eq, tLc_eq, tLenSetS, tLock, tLockE, tLst, tLstRg, tM1, tMakeRS, tMakeS, tMakeV, tMakeVS, tMeth, tMethX, tMkO, tMulA, tMulD, tNext, tNil, tNoPart, tNot, tNotV, tOp, tOpI, tOpR, tOr, tOrV, tOst, tPairs, tPar, tPar3, tPart, tRet, tRetN, tRevT, tRg2, tSMeth, tSeq, tSl, tTest, tTup, tUn, tVar, tVeI, tXf, tYes, true_and, wAs, wMA, wipe, rTupOf])
/-! ### _law_bent -/
abbrev sBent : Stmt := topS 58
/-- a text that may be bent -/
structure OkU (z : Str) : Prop where
  len : z.length ≤ 800
  cps : z.cps.all (· < 0x110000) = true
def Val (z : Str) : Prop := ∀ c ∈ z.cps.toList, c < 0x110000
theorem val_iff {z : Str} : z.cps.all (· < 0x110000) = true ↔ Val z := by
  rw [← Array.all_toList, List.all_eq_true]
  simp [Val]
theorem val_app {x y : Str} (hx : Val x) (hy : Val y) : Val (x ++ y) := fun c hc => by
  have e : (x ++ y).cps.toList = x.cps.toList ++ y.cps.toList := TL.tl_append x y
  rw [e] at hc
  exact (List.mem_append.1 hc).elim (hx c) (hy c)
theorem val_cut {z : Str} (h : Val z) (lo hi : Option Int) : Val (cutS z lo hi) := fun c hc => h c (List.mem_of_mem_drop (List.mem_of_mem_take hc))
theorem cut_lo (z : Str) (k : Nat) : (cutS z none (some (k : Int))).length ≤ min k z.length := by
  show (((z.cps.toList.drop 0).take (HT.sIx z.length z.length (some (k : Int)) - 0)).toArray).size ≤ _
  rw [List.size_toArray, List.length_take, HT.sIx_nat]
  omega
theorem cut_hi (z : Str) (k : Nat) : (cutS z (some (k : Int)) none).length ≤ z.length - k := by
  show (((z.cps.toList.drop (HT.sIx z.length 0 (some (k : Int)))).take (z.length - HT.sIx z.length 0 (some (k : Int)))).toArray).size ≤ _
  have e : z.length = z.cps.toList.length := rfl
  rw [List.size_toArray, List.length_take, List.length_drop, HT.sIx_nat]
  omega
theorem app_len (x y : Str) : (x ++ y).length = x.length + y.length := by
  rw [TL.len_tl, TL.tl_append, List.length_append, ← TL.len_tl, ← TL.len_tl]
theorem spl_sum (s : Nat) : ∀ (acc l : List Nat), ((TL.spl [s] 0 acc l).map List.length).sum + (TL.spl [s] 0 acc l).length ≤ acc.length + l.length + 1
  | acc, [] => by
    rw [TL.spl_nil]
    simp
  | acc, c :: r => by
    unfold TL.spl
    split
    · have := spl_sum s [] r
      have e : [s].length - 1 = 0 := rfl
      rw [e, List.map_cons, List.sum_cons, List.length_cons, List.length_cons]
      simp only [List.length_singleton, List.length_nil] at this ⊢
      omega
    · have := spl_sum s (acc ++ [c]) r
      rw [List.length_append, List.length_singleton] at this
      rw [List.length_cons]
      omega
theorem split_sum (z : Str) : ((Txt.split z "\n").map (·.length)).sum + (Txt.split z "\n").length ≤ z.length + 1 := by
  have e := TL.split_spl z "\n" nl_ne (TL.kind_ok (by decide +kernel))
  have e2 : TL.tl ("\n" : Str) = [10] := by decide +kernel
  rw [e2] at e
  have h := spl_sum 10 [] (TL.tl z)
  rw [← e, List.map_map, List.length_map] at h
  have e3 : ((Txt.split z "\n").map (List.length ∘ TL.tl)) = (Txt.split z "\n").map (·.length) := List.map_congr_left fun x _ => (TL.len_tl x).symm
  rw [e3, ← TL.len_tl] at h
  simpa using h
theorem mem_joinL {S : List Nat} : ∀ {ps : List (List Nat)} {c : Nat}, c ∈ TL.joinL S ps → c ∈ S ∨ ∃ p ∈ ps, c ∈ p
  | [p], c, h => .inr ⟨p, by simp, h⟩
  | p :: q :: r, c, h => by
    rcases List.mem_append.1 h with h | h
    · exact .inr ⟨p, by simp, h⟩
    · rcases List.mem_append.1 h with h | h
      · exact .inl h
      · rcases mem_joinL h with h | ⟨x, hx, h⟩
        · exact .inl h
        · exact .inr ⟨x, List.mem_cons_of_mem _ hx, h⟩
theorem val_join {y : Str} {ps : List Str} (hy : Val y) (hp : ∀ p ∈ ps, Val p) : Val (Txt.join y ps) := fun c hc => by
  have e : (Txt.join y ps).cps.toList = TL.joinL (TL.tl y) (ps.map TL.tl) := by
    rw [TL.join_eq]
    exact TL.tl_join y ps
  rw [e] at hc
  rcases mem_joinL hc with h | ⟨p, h1, h2⟩
  · exact hy c h
  · obtain ⟨q, hq, rfl⟩ := List.mem_map.1 h1
    exact hp q hq c h2
theorem sum_take_drop (l : List Str) (k j : Nat) (h : k ≤ j) : ((l.take k).map (·.length)).sum + ((l.drop j).map (·.length)).sum ≤ (l.map (·.length)).sum := by
  have e : l = l.take k ++ ((l.drop k).take (j - k) ++ l.drop j) := by
    have : l.drop j = (l.drop k).drop (j - k) := by rw [List.drop_drop]; congr 1; omega
    rw [this, List.take_append_drop, List.take_append_drop]
  conv => rhs; rw [e]
  rw [List.map_append, List.map_append, List.sum_append, List.sum_append]
  omega
theorem cutV_lo (xs : List V) {k : Nat} (h : k ≤ xs.length) : cutV xs none (some (k : Int)) = xs.take k := by
  unfold cutV
  rw [HT.sIx_nat]
  show (xs.drop 0).take (min k xs.length - 0) = _
  rw [List.drop_zero]
  congr 1
  omega
theorem cutV_hi (xs : List V) {k : Nat} (h : k ≤ xs.length) : cutV xs (some (k : Int)) none = xs.drop k := by
  unfold cutV
  rw [HT.sIx_nat]
  show (xs.drop (min k xs.length)).take (xs.length - min k xs.length) = _
  rw [show min k xs.length = k by omega]
  exact List.take_of_length_le (by rw [List.length_drop]; omega)
section
variable {P : Program} {w : World} {K : PySem.W.Frag} {mg : Str → Option Value} {base : Heap}
def spBent : Sp := fun vs H Q _ => ∃ (pp : Addr) (z : Str), vs = [.ref pp, .str z] ∧ Pool H pp ∧ OkU z ∧ ∀ z' G, Gr pp H G → OkT z' → Q (.str z') G
theorem scBent : FnScope ["pool", "text", "at", "way", "lines"] ["pool", "text"] (defScope sBent) := ⟨rfl, rfl, rfl, by decide +kernel, rfl, by decide +kernel, by decide +kernel⟩
theorem c_bent (D : Def K mg "_law_bent" sBent ["pool", "text"]) (T : Bl2 mg) (cD : FnC P w K mg base CX0 1 "_law_draw" ["pool", "many"] spDraw) (cP : FnC P w K mg base CX0 2 "_law_pick" ["pool", "some"] (spPick K)) : FnC P w K mg base CX0 3 "_law_bent" ["pool", "text"] spBent := by
  refine D.ok scBent (fun vs H Q E h => ?_) (fun f' cdv A outer s H vs Q E hr h => ?_)
  · obtain ⟨pp, z, rfl, _⟩ := h
    rfl
  · obtain ⟨pp, z, rfl, PP, oz, k⟩ := h
    have sc := scBent
    have hr1 : Room 1 _ := hr.mono (by decide)
    have hr2 : Room 2 _ := hr.mono (by decide)
    have hv := val_iff.1 oz.cps
    have zl := oz.len
    refine ⟨_, (pss_cut (ps_par (i := 2) (j := 3) (by rfl) sc.nd rfl rfl (by decide) rfl rfl (pa_cons (pe_c cD hr1 rfl (pa_cons (pv 0) (pa_cons (pe_op op_add (pe_callB call_len_str (by rfl) T.n_len (by decide +kernel) (pa_cons (pv 1) pa_nil)) pe_int) pa_nil))) (pa_cons (pe_c cD hr1 rfl (pa_cons (pv 0) (pa_cons pe_int pa_nil))) pa_nil)) (by rfl))
      (pss_cut (ps_if (pt_cmpR op_lt (pv 3) pe_int (nomark _)) (pss_one (ps_ret (pe_op op_add_str (pe_op op_add_str (pe_slice sl_str (pv 1) po_none (po_some (pv 2))) (pe_c cP hr2 rfl (pa_cons (pv 0) (pa_cons (pe_lst (pa_cons pe_str (pa_cons pe_str (pa_cons pe_str (pa_cons pe_str (pa_cons pe_str (pa_cons pe_str (pa_cons pe_str (pa_cons pe_str (pa_cons pe_str (pa_cons pe_str pa_nil))))))))))) pa_nil)))) (pe_slice sl_str (pv 1) (po_some (pv 2)) po_none)))) pss_nil)
      (pss_cut (ps_if (pt_cmpR op_eq (pv 3) pe_int (nomark _)) (pss_one (ps_ret (pe_op op_add_str (pe_slice sl_str (pv 1) po_none (po_some (pv 2))) (pe_slice sl_str (pv 1) (po_some (pe_op op_add (pv 2) pe_int)) po_none)))) pss_nil)
      (pss_cut (ps_set (i := 4) sc.nd rfl (Or.inl rfl) (pe_split (pv 1) pe_str))
      (pss_cut (ps_set (i := 2) sc.nd rfl (Or.inl rfl) (pe_c cD hr1 rfl (pa_cons (pv 0) (pa_cons (pe_callB call_len_seq (by rfl) T.n_len (by decide +kernel) (pa_cons (pv 4) pa_nil)) pa_nil))))
      (pss_cut (ps_if (pt_cmpR op_eq (pv 3) pe_int (nomark _)) (pss_one (ps_ret (pe_join pe_str (pe_op op_cat (pe_slice sl_list (pv 4) po_none (po_some (pv 2))) (pe_slice sl_list (pv 4) (po_some (pe_op op_add (pv 2) pe_int)) po_none))))) pss_nil)
      (pss_one (ps_ret (pe_ifExp (pt_cmpR op_eq (pv 3) pe_int (nomark _)) (pe_join pe_str (pe_op op_cat (pe_op op_cat (pe_slice sl_list (pv 4) po_none (po_some (pv 2))) (pe_lst (pa_cons (pe_op op_add_str (pe_ix ix_list (pv 4) (pv 2) (fun _ _ => rfl)) pe_str) pa_nil))) (pe_slice sl_list (pv 4) (po_some (pe_op op_add (pv 2) pe_int)) po_none))) (pe_slice sl_str (pv 1) po_none (po_some (pe_un un_neg pe_int)))))))))))), ?_⟩
    have hz := sizeLine_eq
    refine cut_hide (fun τ G => ∃ (at_ : Nat) (way : Int), τ = [some (.ref pp), some (.str z), some (.int (at_ : Nat)), some (.int way), none] ∧ Gr pp H G ∧ at_ ≤ z.length) (fun M' hM => ?_) ?_
    · walk_at "wp"
      refine ⟨by omega, pp, (z.length : Int) + 1, rfl, PP, by omega, fun v G v0 v1 g => ?_⟩
      refine ⟨pp, 7, rfl, g.pool, by decide, fun v' G' v0' v1' g' => ?_⟩
      obtain ⟨n, rfl⟩ : ∃ n : Nat, v = n := ⟨v.toNat, by omega⟩
      exact hM _ _ ⟨n, v', rfl, g.trans g', by omega⟩
    rintro τ G ⟨at_, way, rfl, g1, hat⟩
    refine cut_hide (fun τ G' => τ = [some (.ref pp), some (.str z), some (.int (at_ : Nat)), some (.int way), none] ∧ G' = G) (fun M' hM => ?_) ?_
    · walk_at "wp"
      refine ite2 (fun c => ?_) fun c => hM _ _ ⟨rfl, rfl⟩
      refine ⟨z, rfl, by omega, by decide, fun p np => ?_⟩
      have P1 := g1.pool
      have sp := same_new (o := .lst [V.str " ", V.str "\n", V.str "0", V.str "-", V.str "a", V.str "99", V.str "01", V.str "None", V.str "\t", V.str "+1"]) np
      refine ⟨pp, p, _, rfl, (Gr.ofSame P1 sp).pool, .inl ⟨SqL.of upd_same, (P1.ne_none np).symm⟩, by decide, fun x G2 hx g2 => ?_⟩
      obtain ⟨y, hy, rfl⟩ := List.mem_map.1 (show x ∈ ([" ", "\n", "0", "-", "a", "99", "01", "None", "\t", "+1"] : List Str).map V.str from hx)
      have hyl : y.length ≤ 4 ∧ Val y := by
        have key : ∀ y ∈ ([" ", "\n", "0", "-", "a", "99", "01", "None", "\t", "+1"] : List Str), (decide (y.length ≤ 4) && y.cps.all (· < 0x110000)) = true := by decide +kernel
        have q := key y hy
        rw [Bool.and_eq_true, decide_eq_true_eq] at q
        exact ⟨q.1, val_iff.1 q.2⟩
      have lo := cut_lo z at_
      have hi := cut_hi z at_
      have la := app_len (cutS z none (some (at_ : Int))) y
      refine ⟨_, rfl, y, rfl, by omega, z, rfl, by omega, _, rfl, by omega, k _ _ (g1.trans ((Gr.ofSame P1 sp).trans g2)) ⟨?_, ?_⟩⟩
      · have lb := app_len (cutS z none (some (at_ : Int)) ++ y) (cutS z (some (at_ : Int)) none)
        omega
      · exact val_iff.2 (val_app (val_app (val_cut hv _ _) hyl.2) (val_cut hv _ _))
    rintro τ G' ⟨rfl, rfl⟩
    refine cut_hide (fun τ G2 => τ = [some (.ref pp), some (.str z), some (.int (at_ : Nat)), some (.int way), none] ∧ G2 = G') (fun M' hM => ?_) ?_
    · walk_at "wp"
      refine ⟨rfl, ite2 (fun c => ?_) fun c => hM _ _ ⟨rfl, rfl⟩⟩
      have e1 : ((at_ : Nat) : Int) + 1 = ((at_ + 1 : Nat) : Int) := rfl
      rw [e1]
      have lo := cut_lo z at_
      have hi := cut_hi z (at_ + 1)
      refine ⟨z, rfl, by omega, z, rfl, by omega, _, rfl, _, rfl, by omega, k _ _ g1 ⟨?_, val_iff.2 (val_app (val_cut hv _ _) (val_cut hv _ _))⟩⟩
      have lb := app_len (cutS z none (some (at_ : Int))) (cutS z (some ((at_ + 1 : Nat) : Int)) none)
      omega
    rintro τ G2 ⟨rfl, rfl⟩
    refine cut_hide (fun τ G3 => ∃ l, τ = [some (.ref pp), some (.str z), some (.int (at_ : Nat)), some (.int way), some (.ref l)] ∧ Gr pp G2 G3 ∧ l ≠ pp ∧ G3 l = some (.lst ((Txt.split z "\n").map V.str))) (fun M' hM => ?_) ?_
    · walk_at "wp"
      refine ⟨⟨_, rfl⟩, by decide +kernel, by omega, fun p np => hM _ _ ⟨p, rfl, Gr.new g1.pool np, (g1.pool.ne_none np).symm, upd_same⟩⟩
    rintro τ G3 ⟨l, rfl, g3, nl, hl⟩
    refine cut_hide (fun τ G4 => ∃ j : Nat, τ = [some (.ref pp), some (.str z), some (.int (j : Nat)), some (.int way), some (.ref l)] ∧ Gr pp G2 G4 ∧ G4 l = some (.lst ((Txt.split z "\n").map V.str)) ∧ j < (Txt.split z "\n").length) (fun M' hM => ?_) ?_
    · walk_at "wp"
      have ne := split_ne (x := z) nl_ne (by decide +kernel)
      refine ⟨_, .inl (SqL.of hl), ?_⟩
      rw [List.length_map]
      have lp : 0 < (Txt.split z "\n").length := List.length_pos_iff.2 ne
      refine ⟨pp, _, rfl, g3.pool, by omega, fun v G v0 v1 g => ?_⟩
      obtain ⟨n, rfl⟩ : ∃ n : Nat, v = n := ⟨v.toNat, by omega⟩
      exact hM _ _ ⟨n, rfl, g3.trans g, g.keep _ _ nl hl, by omega⟩
    rintro τ G4 ⟨j, rfl, g4, hl4, hj⟩
    have g4' := g1.trans g4
    have e1 : ∀ j : Nat, ((j : Nat) : Int) + 1 = ((j + 1 : Nat) : Int) := fun _ => rfl
    have ss := split_sum z
    have one : ("\n" : Str).length = 1 := rfl
    have vs : ∀ q ∈ Txt.split z "\n", Val q := fun q hq c hc => hv c ((split_mem nl_ne (by decide +kernel) hq).2 c hc)
    refine cut_hide (fun τ G5 => τ = [some (.ref pp), some (.str z), some (.int (j : Nat)), some (.int way), some (.ref l)] ∧ G5 = G4) (fun M' hM => ?_) ?_
    · walk_at "wp"
      refine ⟨rfl, ite2 (fun c => ?_) fun c => hM _ _ ⟨rfl, rfl⟩⟩
      have P4 := g4.pool
      refine ⟨⟨_, rfl⟩, _, SqL.of hl4, fun p1 n1 => ?_⟩
      rw [cutV_lo _ (by rw [List.length_map]; omega), ← List.map_take]
      have s1 := same_new (o := .lst (((Txt.split z "\n").take j).map V.str)) n1
      have h1 : (upd G4 p1 (.lst (((Txt.split z "\n").take j).map V.str))) p1 = some (.lst (((Txt.split z "\n").take j).map V.str)) := upd_same
      generalize upd G4 p1 (.lst (((Txt.split z "\n").take j).map V.str)) = A1 at s1 h1 ⊢
      refine ⟨_, SqL.of (s1 _ _ hl4), fun p2 n2 => ?_⟩
      rw [e1 j, cutV_hi _ (by rw [List.length_map]; omega), ← List.map_drop]
      have s2 := same_new (o := .lst (((Txt.split z "\n").drop (j + 1)).map V.str)) n2
      have h2 : (upd A1 p2 (.lst (((Txt.split z "\n").drop (j + 1)).map V.str))) p2 = some (.lst (((Txt.split z "\n").drop (j + 1)).map V.str)) := upd_same
      generalize upd A1 p2 (.lst (((Txt.split z "\n").drop (j + 1)).map V.str)) = A2 at s2 h2 ⊢
      have td := sum_take_drop (Txt.split z "\n") j (j + 1) (by omega)
      have ld : ((Txt.split z "\n").take j).length + ((Txt.split z "\n").drop (j + 1)).length ≤ (Txt.split z "\n").length := by rw [List.length_take, List.length_drop]; omega
      refine ⟨_, s2 _ _ h1, _, h2, by rw [List.length_map, List.length_map]; omega, fun p3 n3 => ⟨(Txt.split z "\n").take j ++ (Txt.split z "\n").drop (j + 1), .inl (SqL.of (by rw [upd_same, List.map_append])), ?_, ?_⟩⟩
      · rw [List.map_append, List.sum_append, List.length_append]
        show _ + _ * 1 ≤ _
        omega
      · have s3 := same_new (o := .lst (((Txt.split z "\n").take j).map V.str ++ ((Txt.split z "\n").drop (j + 1)).map V.str)) n3
        refine k _ _ (g4'.trans (Gr.ofSame P4 ((s1.trans s2).trans s3))) ⟨?_, val_iff.2 (val_join (val_iff.1 (by decide +kernel)) fun q hq => ?_)⟩
        · have jl := join_len "\n" ((Txt.split z "\n").take j ++ (Txt.split z "\n").drop (j + 1))
          rw [List.map_append, List.sum_append, List.length_append, one] at jl
          omega
        · rcases List.mem_append.1 hq with hq | hq
          · exact vs q (List.mem_of_mem_take hq)
          · exact vs q (List.mem_of_mem_drop hq)
    rintro τ G5 ⟨rfl, rfl⟩
    walk_at "wp"
    refine ⟨rfl, ite2 (fun c => ?_) fun c => ?_⟩
    · have P4 := g4.pool
      refine ⟨⟨_, rfl⟩, _, SqL.of hl4, fun p1 n1 => ?_⟩
      rw [cutV_lo _ (by rw [List.length_map]; omega), ← List.map_take]
      have s1 := same_new (o := .lst (((Txt.split z "\n").take j).map V.str)) n1
      have h1 : (upd G5 p1 (.lst (((Txt.split z "\n").take j).map V.str))) p1 = some (.lst (((Txt.split z "\n").take j).map V.str)) := upd_same
      generalize upd G5 p1 (.lst (((Txt.split z "\n").take j).map V.str)) = A1 at s1 h1 ⊢
      have hj2 : ((Txt.split z "\n").map V.str)[j]? = some (.str (Txt.split z "\n")[j]) := by rw [List.getElem?_map, List.getElem?_eq_getElem hj]; rfl
      have hw : (Txt.split z "\n")[j] ∈ Txt.split z "\n" := List.getElem_mem hj
      have hwl := (split_mem nl_ne (by decide +kernel) hw).1
      refine ⟨_, SqL.of (s1 _ _ hl4), _, at_of (j := j) rfl hj2, _, rfl, by show _ + 1 ≤ _; omega, by decide, fun p2 n2 => ?_⟩
      have s2 := same_new (o := .lst [V.str ((Txt.split z "\n")[j] ++ " ")]) n2
      have h2 : (upd A1 p2 (.lst [V.str ((Txt.split z "\n")[j] ++ " ")])) p2 = some (.lst [V.str ((Txt.split z "\n")[j] ++ " ")]) := upd_same
      generalize upd A1 p2 (.lst [V.str ((Txt.split z "\n")[j] ++ " ")]) = A2 at s2 h2 ⊢
      refine ⟨_, s2 _ _ h1, _, h2, by rw [List.length_map, List.length_take]; show _ + 1 ≤ _; omega, fun p3 n3 => ?_⟩
      have s3 := same_new (o := .lst (((Txt.split z "\n").take j).map V.str ++ [V.str ((Txt.split z "\n")[j] ++ " ")])) n3
      have h3 : (upd A2 p3 (.lst (((Txt.split z "\n").take j).map V.str ++ [V.str ((Txt.split z "\n")[j] ++ " ")]))) p3 = some (.lst (((Txt.split z "\n").take j).map V.str ++ [V.str ((Txt.split z "\n")[j] ++ " ")])) := upd_same
      generalize upd A2 p3 (.lst (((Txt.split z "\n").take j).map V.str ++ [V.str ((Txt.split z "\n")[j] ++ " ")])) = A3 at s3 h3 ⊢
      have s123 := (s1.trans s2).trans s3
      refine ⟨_, SqL.of (s123 _ _ hl4), fun p4 n4 => ?_⟩
      rw [e1 j, cutV_hi _ (by rw [List.length_map]; omega), ← List.map_drop]
      have s4 := same_new (o := .lst (((Txt.split z "\n").drop (j + 1)).map V.str)) n4
      have h4 : (upd A3 p4 (.lst (((Txt.split z "\n").drop (j + 1)).map V.str))) p4 = some (.lst (((Txt.split z "\n").drop (j + 1)).map V.str)) := upd_same
      generalize upd A3 p4 (.lst (((Txt.split z "\n").drop (j + 1)).map V.str)) = A4 at s4 h4 ⊢
      have td := sum_take_drop (Txt.split z "\n") j (j + 1) (by omega)
      have hdj : (Txt.split z "\n").drop j = (Txt.split z "\n")[j] :: (Txt.split z "\n").drop (j + 1) := List.drop_eq_getElem_cons hj
      have td2 := sum_take_drop (Txt.split z "\n") j j (Nat.le_refl _)
      rw [hdj, List.map_cons, List.sum_cons] at td2
      have ld : ((Txt.split z "\n").take j).length + (1 + ((Txt.split z "\n").drop (j + 1)).length) ≤ (Txt.split z "\n").length := by rw [List.length_take, List.length_drop]; omega
      have lw := app_len (Txt.split z "\n")[j] " "
      have one2 : (" " : Str).length = 1 := rfl
      rw [one2] at lw
      refine ⟨_, s4 _ _ h3, _, h4, by rw [List.length_append, List.length_map, List.length_map]; show _ + 1 + _ ≤ _; omega, fun p5 n5 => ⟨(Txt.split z "\n").take j ++ [(Txt.split z "\n")[j] ++ " "] ++ (Txt.split z "\n").drop (j + 1), .inl (SqL.of (by rw [upd_same, List.map_append, List.map_append]; rfl)), ?_, ?_⟩⟩
      · rw [List.map_append, List.map_append, List.sum_append, List.sum_append, List.length_append, List.length_append, List.map_singleton, List.sum_singleton, List.length_singleton, one]
        omega
      · have s5 := same_new (o := .lst (((Txt.split z "\n").take j).map V.str ++ [V.str ((Txt.split z "\n")[j] ++ " ")] ++ ((Txt.split z "\n").drop (j + 1)).map V.str)) n5
        refine k _ _ (g4'.trans (Gr.ofSame P4 ((s123.trans s4).trans s5))) ⟨?_, val_iff.2 (val_join (val_iff.1 (by decide +kernel)) fun q hq => ?_)⟩
        · have jl := join_len "\n" ((Txt.split z "\n").take j ++ [(Txt.split z "\n")[j] ++ " "] ++ (Txt.split z "\n").drop (j + 1))
          rw [List.map_append, List.map_append, List.sum_append, List.sum_append, List.length_append, List.length_append, List.map_singleton, List.sum_singleton, List.length_singleton, one] at jl
          omega
        · rcases List.mem_append.1 hq with hq | hq
          · rcases List.mem_append.1 hq with hq | hq
            · exact vs q (List.mem_of_mem_take hq)
            · rw [List.mem_singleton.1 hq]
              exact val_app (vs _ hw) (val_iff.1 (by decide +kernel))
          · exact vs q (List.mem_of_mem_drop hq)
    · refine ⟨z, rfl, by omega, k _ _ g4' ⟨Nat.le_trans (cutS_length _ _ _) (by omega), val_iff.2 (val_cut hv _ _)⟩⟩
end

end YY

set_option maxRecDepth 100000
set_option maxHeartbeats 4000000
namespace PySem.SeqAt
open AutoSeq1 (wpAny_loadPart')
open MeetsSeq MeetsSeq2 MeetsSeq3 SeqRoads2
/-! != of two lists whose items the text's own == tells to be equal -/
section
variable {prog : Program} {w : World} {A : Around} {R : Result → Shared → Prop}
theorem ownNe_loop {x y : Addr} {N : Nat} {I : Nat → Shared → Prop} (hl : GQ.ListI prog w A (fun e s' => R (.error e) s') x y N I) (fin : ∀ s, I N s → R (.ok (.ret (.bool false))) s) (k : Nat) :
    ∀ i : Nat, N - i = k → i ≤ N → ∀ s, I i s → wpAny (model prog w) A.in1 (Builtin.«list.__eq__.loop» ⟨[.ref x, .ref y, rawInt i, rawInt 3], []⟩) (GQ.FinOf prog w A R) (fun e s' => R (.error e) s') s := by
  induction k with
  | zero =>
    intro i hk hi s h
    obtain ⟨us, ws, m1, m2, hx, hy, z1, z2, _⟩ := hl _ _ h
    have q := fin s ((show i = N by omega) ▸ h)
    obtain ⟨hp, g, d, tk, os⟩ := s
    wp_walk using wpAny_loadPart' hx, wpAny_loadPart' hy
    have e1 : us[((i : Nat) : Int).toNat]? = none := Array.getElem?_eq_none (by rw [Int.toNat_natCast]; omega)
    have e2 : ws[((i : Nat) : Int).toNat]? = none := Array.getElem?_eq_none (by rw [Int.toNat_natCast]; omega)
    rw [e1, e2]
    wp_walk using wpAny_loadPart' hx, wpAny_loadPart' hy
    have e3 : (us.size != ws.size) = false := by rw [z1, z2, bne_self_eq_false]
    show R (.ok (.ret (.bool (us.size != ws.size)))) _
    rw [e3]
    exact q
  | succ k ih =>
    intro i hk hi s h
    obtain ⟨us, ws, m1, m2, hx, hy, z1, z2, turn⟩ := hl _ _ h
    have l1 : i < us.size := by omega
    have l2 : i < ws.size := by omega
    have t := turn l1 l2
    obtain ⟨hp, g, d, tk, os⟩ := s
    wp_walk using wpAny_loadPart' hx, wpAny_loadPart' hy
    have e1 : us[((i : Nat) : Int).toNat]? = some us[i] := by rw [Int.toNat_natCast]; exact Array.getElem?_eq_getElem l1
    have e2 : ws[((i : Nat) : Int).toNat]? = some ws[i] := by rw [Int.toNat_natCast]; exact Array.getElem?_eq_getElem l2
    rw [e1, e2]
    refine wpAny_bind (wpAny_mono t (fun r s2 h2 => ?_) fun _ _ z => z)
    obtain ⟨rfl, h2⟩ := h2
    have rec_ := ih (i + 1) (by omega) (by omega) s2 h2
    obtain ⟨hp2, g2, d2, tk2, os2⟩ := s2
    wp_walk
    have e3 : ((i : Int) + 1) = ((i + 1 : Nat) : Int) := rfl
    rw [e3]
    refine ⟨plainId_quiet plain_eq_loop _, codeAny_builtin entry_eq_loop ?_⟩
    rw [Around.under_plainId plain_eq_loop _]
    exact rec_
theorem ownNe_list {x y : Addr} {N : Nat} {I : Nat → Shared → Prop} (hl : GQ.ListI prog w A (fun e s' => R (.error e) s') x y N I) (fin : ∀ s, I N s → R (.ok (.ret (.bool false))) s) {s : Shared} (h : I 0 s) :
    wpAny (model prog w) A.in1 (Builtin.«list.__ne__» ⟨[.ref x, .ref y], []⟩) (GQ.FinOf prog w A R) (fun e s' => R (.error e) s') s := by
  obtain ⟨us, ws, m1, m2, hx, hy, z1, z2, _⟩ := hl _ _ h
  have rec_ := ownNe_loop hl fin N 0 (by omega) (Nat.zero_le _) s h
  obtain ⟨hp, g, d, tk, os⟩ := s
  have f3 := AutoSeq1.sub_list_list
  have hne : ¬ (us.size != ws.size) = true := by rw [z1, z2, bne_self_eq_false]; exact Bool.false_ne_true
  wp_walk using wpAny_loadPart' hx, wpAny_loadPart' hy
  refine ⟨plainId_quiet plain_eq_loop _, codeAny_builtin entry_eq_loop ?_⟩
  rw [Around.under_plainId plain_eq_loop _]
  exact rec_
theorem ownNe_rc {x y : Addr} {N : Nat} {Q : Value → Shared → Prop} {E : Value → Shared → Prop} {s : Shared} (hu : A.units < cLine) (I : Nat → Shared → Prop) (hl : GQ.ListI prog w A E x y N I) (fin : ∀ s, I N s → Q (.bool false) s) (h : I 0 s) : wpAny (model prog w) A (richCompare .NotEq (.ref x) (.ref y)) Q E s := by
  obtain ⟨us, ws, m1, m2, hx, hy, _, _, _⟩ := hl _ _ h
  refine wpAny_richCompare_same_room (op := .NotEq) ⟨_, hx, rfl⟩ ⟨_, hy, rfl⟩ F.slot_list_ne (GQ.call_here F.slot_list_ne ⟨_, hx, rfl⟩ F.entry_list_ne (F.args_list_ne_2 _ _) ?_) hu
  exact ownNe_list (R := wants (fun v s' => v ≠ .notImplemented ∧ Q v s') E) hl (fun s' q => ⟨(fun z => nomatch z), fin s' q⟩) h
end
end PySem.SeqAt
namespace XX
open PySem PySem.Spec PyProof.Rows L2
section
variable {X : Cx} {n : Nat} {D : Eqv}
theorem op_neOwn (hD : Mon D) (h : EqG X n D) (hr : Room (n + 1) X.A) : OpR X (compareOp .NotEq) (fun x y H Q => DList D x y H ∧ ∀ H', Ext H H' → Q (.bl false) H') := by
  intro pins s σ H x y v u Q I rx ry hq
  obtain ⟨⟨a, b, xs, ys, rfl, rfl, ha, hb, p⟩, q⟩ := hq
  cases rx
  cases ry
  refine SeqAt.ownNe_rc (N := xs.length) hr.units0 (fun _ s' => LoopI X pins σ H s') (fun i s' z => ?_) (fun s' z => ?_) ⟨H, I, Ext.rfl'⟩
  · obtain ⟨H1, I1, e1⟩ := id z
    obtain ⟨_, us, k, r, e⟩ := I1.hok a _ (e1 _ _ ha)
    obtain ⟨_, ws, k2, r2, e2⟩ := I1.hok b _ (e1 _ _ hb)
    refine ⟨us.toArray, ws.toArray, k, k2, e, e2, by rw [List.size_toArray, ← r.length], by rw [List.size_toArray, ← r2.length, ← p.1], fun h1 h2 => ?_⟩
    exact turnG hD h ⟨hr, rfl⟩ p r r2 i h1 h2 s' z
  · obtain ⟨H1, I1, e1⟩ := z
    exact ⟨.bl false, H1, I1, rfl, q H1 e1⟩
/-- [text, instance], two such lists: their second items are equal by the text's own == -/
def TwoT (C : Addr) (R : Addr → Addr → Hp → Prop) (x y : V) (H : Hp) : Prop := ∃ a b z u v d1 f1 d2 f2, x = .ref a ∧ y = .ref b ∧ H a = some (.lst [.str z, .ref u]) ∧ H b = some (.lst [.str z, .ref v]) ∧ H u = some (.ins C d1 f1) ∧ H v = some (.ins C d2 f2) ∧ R u v H
theorem twoT_list {C : Addr} {R : Addr → Addr → Hp → Prop} {x y : V} {H : Hp} (h : TwoT C R x y H) : DList (fun x y H => DFlat x y H ∨ DIns C R x y H) x y H := by
  obtain ⟨a, b, z, u, v, d1, f1, d2, f2, rfl, rfl, ha, hb, hu, hv, hR⟩ := h
  exact ⟨a, b, _, _, rfl, rfl, ha, hb, .cons (.inl ⟨rfl, rfl, by simp [eqV]⟩) (.cons (.inr ⟨u, v, d1, d2, f1, f2, rfl, rfl, hu, hv, hR⟩) .nil)⟩
variable {sp : Sp} {C : Addr} {R : Addr → Addr → Hp → Prop}
theorem eqG_own (M : MtC X.prog X.w X.K X.mg X.base CX0 n C "__eq__" ["self", "other"] sp) (hR : ∀ a b H H', Ext H H' → R a b H → R a b H') (hs : ∀ a b H Q E, R a b H → (∀ H', Ext H H' → Q (.bl true) H') → sp [.ref a, .ref b] H Q E) :
    Mon (fun x y H => DFlat x y H ∨ DIns C R x y H) ∧ EqG X n (fun x y H => DFlat x y H ∨ DIns C R x y H) := by
  obtain ⟨f, fd, F, hm, bi⟩ := M.ex
  refine ⟨mon_flat.or (mon_ins hR), (eqG_flat.mono (Nat.zero_le _)).or (eqG_ins (E := E0) (F.imp (sp' := spEq R) ?_) hm.at_ hm.fn bi pass0)⟩
  rintro vs H Q E ⟨a, b, rfl, r, q⟩
  exact hs a b H Q E r q
theorem op_neTwo (M : MtC X.prog X.w X.K X.mg X.base CX0 n C "__eq__" ["self", "other"] sp) (hR : ∀ a b H H', Ext H H' → R a b H → R a b H') (hs : ∀ a b H Q E, R a b H → (∀ H', Ext H H' → Q (.bl true) H') → sp [.ref a, .ref b] H Q E) (hr : Room (n + 1) X.A) : OpR X (compareOp .NotEq) (fun x y H Q => TwoT C R x y H ∧ ∀ H', Ext H H' → Q (.bl false) H') := by
  obtain ⟨m, e⟩ := eqG_own M hR hs
  intro pins s σ H x y v u Q I rx ry hq
  exact op_neOwn m e hr pins s σ H x y v u Q I rx ry ⟨twoT_list hq.1, hq.2⟩
theorem op_eqTwo (M : MtC X.prog X.w X.K X.mg X.base CX0 n C "__eq__" ["self", "other"] sp) (hR : ∀ a b H H', Ext H H' → R a b H → R a b H') (hs : ∀ a b H Q E, R a b H → (∀ H', Ext H H' → Q (.bl true) H') → sp [.ref a, .ref b] H Q E) (hr : Room (n + 1) X.A) : OpR X (compareOp .Eq) (fun x y H Q => TwoT C R x y H ∧ ∀ H', Ext H H' → Q (.bl true) H') := by
  obtain ⟨m, e⟩ := eqG_own M hR hs
  intro pins s σ H x y v u Q I rx ry hq
  exact op_eqG (rcG_list m e) hr pins s σ H x y v u Q I rx ry ⟨twoT_list hq.1, hq.2⟩
end
end XX

set_option maxRecDepth 100000
set_option maxHeartbeats 4000000
namespace YY
open PySem PySem.Spec PyProof.Rows L2 XX
local macro_rules | `(tactic| walk_at "wp") => `(tactic| simp only [Int.zero_add, L2.start, LcEnd, List.append_nil, List.cons.injEq, List.cons_append, List.getElem?_cons_succ, List.getElem?_cons_zero, List.length_cons, List.length_nil, List.map_cons, List.map_nil, List.nil_append, List.replicate, List.replicate_succ, List.replicate_zero, List.set_cons_succ, List.set_cons_zero, Nat.reduceAdd, Nat.reduceSub, Option.some.injEq, StX.tMakeR, StX.tStar, V.bl.injEq, V.int.injEq, V.ref.injEq, V.str.injEq, V.ty.injEq, WE, and_assoc, and_false, and_true, bool_ite_false, bool_ite_true, cxOf_K, cxOf_noxK, dec_ite, decide_eq_true_eq, exists_and_left, exists_and_right, exists_const, exists_eq_left, exists_eq_left', false_and, false_or, gCons, gName, gNil, gSub, gTup, iEnumA, iItems, iKeys, iList, iRng1, iRng2, iStr, iTup, iZipB, ite_false, ite_true, ndec_ite, or_false, rAppend, rCat, rCatT, rEq, rEqI, rEqK, rEqV, rExt2, rI, rI0, rIn, rInRg, rIndex, rIsD, rIsE, rIsE2, rIxD, rIxL, rIxS, rIxT, rLenI, rLenK, rListStr, rMax, rMaxDef, rSetIM, rEqT, sFldAug, rAdd, rMin, rMulS, rNe, rNeDA, rNeV, rRange1, rRep, rRepA, rReprE, rReprI, rSetD, rSetI, rSetL, rSlL, rSlT, rSortedSet, rU, reduceCtorEq, reduceIte, sFld, tAnd, tAndV, tAsg, tAug, tB, tBM, tBM0, tC, tCB, tCKw, tDGetT, tCall, tCallS, tChain, tCons, tDGet, tDIn, tDNewK, tDNotIn, tDcT_eq, tDc_eq, tDisp, tDrop, tErr, tFld, tFor_eq, tIf, tIfS, tIxI, tLc2_eq, tLc_eq, tLenSetS, tLock, tLockE, tLst, tLstRg, tM1, tMakeRS, tMakeS, tMakeV, tMakeVS, tMeth, tMethX, tMkO, tMulA, tMulD, tNext, tNil, tNoPart, tNot, tNotV, tOp, tOpI, tOpR, tOr, tOrV, tOst, tPairs, tPar, tPar3, tPart, tRet, tRetN, tRevT, tRg2, tSMeth, tSeq, tSl, tTest, tTup, tUn, tVar, tVeI, tXf, tYes, true_and, wAs, wMA, wipe, rTupOf])
/-! ### _law_reads, _law_longest -/
abbrev sReads : Stmt := topS 59
theorem parse_ok {z : Str} {g : PrD} (ok : OkT z) (h : parseG z = some g) : PtOk g ∧ g.ws ≠ [] ∧ progT g = z := by
  unfold parseG at h
  cases e : readG (linesT z) with
  | none => rw [e] at h; cases h
  | some g' =>
    rw [e] at h
    have h : (if progT g' = z then some g' else none) = some g := h
    split at h
    · rename_i c
      cases h
      refine ⟨good_ok (lines_ok ok).2 e, ?_, c⟩
      match hL : linesT z, e with
      | l0 :: l1 :: r0 :: rest, e =>
        have er : readG (l0 :: l1 :: r0 :: rest) = goodG (l1.drop 1) (readT (l0.getLast?.getD "")) ((r0 :: rest).dropLast.map rowD) := rfl
        rw [er] at e
        unfold goodG at e
        split at e
        · rename_i c2
          cases e
          intro w
          have w : l1.drop 1 = [] := w
          rw [w] at c2
          exact absurd c2.1 (by decide)
        · cases e
    · cases h
theorem layAll {ds : List PyData} (h : ∀ d ∈ ds, d.canLay0 = true) : PyData.canLayAll0 ds = true := by
  induction ds with
  | nil => rfl
  | cons d ds ih =>
    rw [PyData.canLayAll0, h d (List.mem_cons_self ..), ih fun e he => h e (List.mem_cons_of_mem _ he)]
    rfl
theorem depthAll_le {n : Nat} {ds : List PyData} (h : ∀ d ∈ ds, d.depth ≤ n) : PyData.depthAll ds ≤ n := by
  induction ds with
  | nil => exact Nat.zero_le _
  | cons d ds ih =>
    rw [PyData.depthAll]
    exact Nat.max_le.mpr ⟨h d (List.mem_cons_self ..), ih fun e he => h e (List.mem_cons_of_mem _ he)⟩
theorem shaped_list {ds : List PyData} (h : ∀ d ∈ ds, SeqAt.shaped d = true ∧ d.depth ≤ 20) : SeqAt.shaped (.list ds) = true ∧ (PyData.list ds).depth ≤ 21 := by
  have e := depthAll_le fun d hd => (h d hd).2
  refine ⟨?_, Nat.succ_le_succ e⟩
  unfold SeqAt.shaped
  rw [PyData.canLay0, layAll fun d hd => SeqAt.canLay_of_shaped (h d hd).1, decide_eq_true (show (PyData.list ds).depth ≤ 64 from by show PyData.depthAll ds + 1 ≤ 64; omega)]
  rfl
theorem flat_str (z : Str) (H : Hp) : DFlat (.str z) (.str z) H := ⟨rfl, rfl, by simp [eqV]⟩
theorem two_strs {H : Hp} {a b : Addr} {y z : Str} (ha : H a = some (.lst [.str y, .str z])) (hb : H b = some (.lst [.str y, .str z])) : DList DFlat (.ref a) (.ref b) H := ⟨a, b, _, _, rfl, rfl, ha, hb, .cons (flat_str _ _) (.cons (flat_str _ _) .nil)⟩
section
variable {P : Program} {w : World} {K : PySem.W.Frag} {mg : Str → Option Value} {base : Heap}
def spReads (K : PySem.W.Frag) : Sp := fun vs H Q _ => ∃ z : Str, vs = [.str z] ∧ OkT z ∧ ∀ G, Same H G → Q (.bl true) G
theorem scReads : FnScope ["text", "found", "again", "plan"] ["text"] (defScope sReads) := ⟨rfl, rfl, rfl, by decide +kernel, rfl, by decide +kernel, by decide +kernel⟩
theorem c_reads {CP CD : Addr} (D : Def K mg "_law_reads" sReads ["text"]) (n_repr : mg "repr" = none) (pc : ProgC K CP) (cH : FnD P w K mg base CX0 9 "_law_heard" ["way", "thing"] (spHeard K CP CD)) (cT : FnC P w K mg base CX0 2 "_law_text" ["plan"] (spLText K)) : FnD P w K mg base CX0 10 "_law_reads" ["text"] (spReads K) := by
  refine D.okG scReads (fun vs H Q E h => ?_) (fun f' cdv A outer s H vs Q E hgu hr h => ?_)
  · obtain ⟨z, rfl, _⟩ := h
    rfl
  · obtain ⟨z, rfl, ok, k⟩ := h
    have sc := scReads
    have hr9 : Room 9 _ := hr.mono (by decide)
    have hr2 : Room 2 _ := hr.mono (by decide)
    have hr1 : Room 1 _ := hr.mono (by decide)
    have hu80 : (A.deeper (envOfC "_law_reads" (defScope sReads) s.heap.objs.size f' cdv)).units + 80 < cLine := by have := hr.un; omega
    refine ⟨_, (pss_cut (ps_set (i := 1) sc.nd rfl (Or.inl rfl) (pe_d cH hgu hr9 pass0 rfl (pa_cons pe_int (pa_cons (pv 0) pa_nil))))
      (pss_cons (ps_if (pt_cmpR op_eq (pe_ix ix_list (pv 1) pe_int (fun _ _ => rfl)) pe_str (nomark _))
          (pss_cut (ps_set (i := 2) sc.nd rfl (Or.inl rfl) (pe_ix ix_list (pv 1) pe_int (fun _ _ => rfl)))
          (pss_cut (ps_set (i := 3) sc.nd rfl (Or.inl rfl) (pe_disp (pps_cons pe_str (pe_fld (pv 2) rfl) (pps_cons pe_str (pe_fld (pv 2) rfl) (pps_cons pe_str (pe_fld (pv 2) rfl) pps_nil))) rfl rfl (by decide) (by decide)))
          (pss_one (ps_ret (pe_cmpR op_eq (pe_c cT hr2 rfl (pa_cons (pv 3) pa_nil)) (pv 0) (nomark _)))))) pss_nil)
      (pss_one (ps_ret (pe_cmpR (op_eqG (rcG_list mon_flat eqG_flat) hr1) (pv 1) (pe_lst (pa_cons pe_str (pa_cons (pe_callB (call_reprEK K rfl hgu hu80) (by rfl) n_repr (by decide +kernel) (pa_cons (pv 0) pa_nil)) pa_nil))) (nomark _)))))), ?_⟩
    have hz := sizeLine_eq
    cases e : parseG z with
    | none =>
      refine cut_hide (fun τ G => ∃ q, τ = [some (.str z), some (.ref q), none, none] ∧ Same H G ∧ G q = some (.lst [.str "text", .str (PyData.str z).shown])) (fun M' hM => ?_) ?_
      · walk_at "wp"
        exact ⟨_, _, rfl, .inr ⟨z, rfl, ok, fun _ q G s nq _ hq => hM _ _ ⟨q, rfl, s, hq⟩, fun g e2 => by rw [e] at e2; cases e2⟩⟩
      rintro τ G ⟨q, rfl, s1, hq⟩
      walk_at "wp"
      refine ⟨_, SqL.of hq, _, at_of (j := 0) rfl rfl, rfl, Eq.mpr (if_neg (by decide)) ⟨.str z, .inl (.str z), rp_text ok, by omega, fun p np => ?_⟩⟩
      have sp := same_new (o := .lst [V.str "text", V.str (PyData.str z).shown]) np
      exact ⟨two_strs (sp _ _ hq) upd_same, fun G2 s2 => k _ ((s1.trans sp).trans s2)⟩
    | some g =>
      obtain ⟨okg, hws, ez⟩ := parse_ok ok e
      refine cut_hide (fun τ G => ∃ q y, τ = [some (.str z), some (.ref q), none, none] ∧ Same H G ∧ G q = some (.lst [.str "told", .ref y]) ∧ ProgAt K CP G y g) (fun M' hM => ?_) ?_
      · walk_at "wp"
        exact ⟨_, _, rfl, .inr ⟨z, rfl, ok, (fun e2 => by rw [e] at e2; cases e2), fun g' e2 y q G s nq hy hq => hM _ _ ⟨q, y, rfl, s, hq, by rw [e] at e2; cases e2; exact hy⟩⟩⟩
      rintro τ G ⟨q, y, rfl, s1, hq, hy⟩
      walk_at "wp"
      refine ⟨_, SqL.of hq, _, at_of (j := 0) rfl rfl, rfl, Eq.mpr (if_pos rfl) ?_⟩
      refine cut_hide (fun τ G' => τ = [some (.str z), some (.ref q), some (.ref y), none] ∧ G' = G) (fun M' hM => ?_) ?_
      · walk_at "wp"
        exact ⟨_, SqL.of hq, _, at_of (j := 1) rfl rfl, hM _ _ ⟨rfl, rfl⟩⟩
      rintro τ G' ⟨rfl, rfl⟩
      obtain ⟨dx, wr, t, plA, chA, hyo, hw, ht, _, _⟩ := id hy
      obtain ⟨rs, htr, hrs⟩ : ∃ rs, SqT K G' t rs ∧ DpAll K G' rs g.ds := by
        cases ht with
        | tup a b => exact ⟨_, a, b⟩
      refine cut_hide (fun τ G2 => ∃ d, τ = [some (.str z), some (.ref q), some (.ref y), some (.ref d)] ∧ Same G' G2 ∧ G2 d = some (.dK (planKV t wr g.size))) (fun M' hM => ?_) ?_
      · walk_at "wp"
        intro d nd
        have sd := same_new (o := .dK []) nd
        have hyd := sd _ _ hyo
        refine ⟨CP, dx, _, hyd, pc.cls, pc.n3, _, rfl, CP, dx, _, hyd, pc.cls, pc.n1, _, rfl, CP, dx, _, hyd, pc.cls, pc.n2, _, rfl, upd_same, planKV t wr g.size, rfl, (by show 3 ≤ 15; decide), ?_⟩
        rw [merge_plan, upd_upd]
        exact hM _ _ ⟨d, rfl, same_new nd, upd_same⟩
      rintro τ G2 ⟨d, rfl, s2, hd⟩
      walk_at "wp"
      refine ⟨d, t, wr, rs, g, rfl, hd, Same.sqT s2 hw, Same.sqT s2 htr, dps_same s2 _ _ hrs, okg, fun G3 s3 => ?_⟩
      have el : lawT g = z := (law_prog hws).trans ez
      refine ⟨by unfold scal; simp, ?_⟩
      have q := k _ ((s1.trans s2).trans s3)
      rw [← decide_eq_true (p := V.str (lawT g) = V.str z) (by rw [el])] at q
      exact q
end

end YY

set_option maxRecDepth 100000
set_option maxHeartbeats 4000000
namespace YY
open PySem PySem.Spec PyProof.Rows L2 XX
local macro_rules | `(tactic| walk_at "wp") => `(tactic| simp only [Int.zero_add, L2.start, LcEnd, List.append_nil, List.cons.injEq, List.cons_append, List.getElem?_cons_succ, List.getElem?_cons_zero, List.length_cons, List.length_nil, List.map_cons, List.map_nil, List.nil_append, List.replicate, List.replicate_succ, List.replicate_zero, List.set_cons_succ, List.set_cons_zero, Nat.reduceAdd, Nat.reduceSub, Option.some.injEq, StX.tMakeR, StX.tStar, V.bl.injEq, V.int.injEq, V.ref.injEq, V.str.injEq, V.ty.injEq, WE, and_assoc, and_false, and_true, bool_ite_false, bool_ite_true, cxOf_K, cxOf_noxK, dec_ite, decide_eq_true_eq, exists_and_left, exists_and_right, exists_const, exists_eq_left, exists_eq_left', false_and, false_or, gCons, gName, gNil, gSub, gTup, iEnumA, iItems, iKeys, iList, iRng1, iRng2, iStr, iTup, iZipB, ite_false, ite_true, ndec_ite, or_false, rAppend, rCat, rCatT, rEq, rEqI, rEqK, rEqV, rExt2, rI, rI0, rIn, rInRg, rIndex, rIsD, rIsE, rIsE2, rIxD, rIxL, rIxS, rIxT, rLenI, rLenK, rListStr, rMax, rMaxDef, rSetIM, rEqT, sFldAug, rAdd, rMin, rMulS, rNe, rNeDA, rNeV, rRange1, rRep, rRepA, rReprE, rReprI, rSetD, rSetI, rSetL, rSlL, rSlT, rSortedSet, rU, reduceCtorEq, reduceIte, sFld, tAnd, tAndV, tAsg, tAug, tB, tBM, tBM0, tC, tCB, tCKw, tDGetT, tCall, tCallS, tChain, tCons, tDGet, tDIn, tDNewK, tDNotIn, tDcT_eq, tDc_eq, tDisp, tDrop, tErr, tFld, tFor_eq, tIf, tIfS, tIxI, tLc2_eq, tLc_eq, tLenSetS, tLock, tLockE, tLst, tLstRg, tM1, tMakeRS, tMakeS, tMakeV, tMakeVS, tMeth, tMethX, tMkO, tMulA, tMulD, tNext, tNil, tNoPart, tNot, tNotV, tOp, tOpI, tOpR, tOr, tOrV, tOst, tPairs, tPar, tPar3, tPart, tRet, tRetN, tRevT, tRg2, tSMeth, tSeq, tSl, tTest, tTup, tUn, tVar, tVeI, tXf, tYes, true_and, wAs, wMA, wipe, rTupOf])
/-! ### the text of a good program reads back -/
/-- a part of a good row: none, a word or a number below 100 -/
def GdP (d : PyData) : Prop := d = .none ∨ (∃ z, d = .str z ∧ wordS z = true) ∨ ∃ n : Nat, d = .int (n : Nat) ∧ n < 100
def capN (n : Str) : Nat := if n = "place" then 8 else if n = "value" then 1 else if n = "to" then 2 else if n = "anchor" then 2 else 8
theorem wordS_iff {z : Str} (h : wordS z = true) : 1 ≤ z.length ∧ z.length ≤ 8 ∧ ∀ c ∈ z.cps.toList, 97 ≤ c ∧ c ≤ 122 := by
  unfold wordS at h
  rw [Bool.and_eq_true, Bool.and_eq_true, decide_eq_true_eq, decide_eq_true_eq] at h
  exact ⟨h.1.1, h.1.2, fun c hc => of_decide_eq_true (List.all_eq_true.1 h.2 c hc)⟩
theorem btw_gd {d : PyData} {hi : Int} (h : btw d 0 hi = true) (hh : hi < 100) : ∃ n : Nat, d = .int (n : Nat) ∧ (n : Int) ≤ hi := by
  obtain ⟨i, rfl, h1, h2⟩ := btw_int h
  exact ⟨i.toNat, by congr 1; omega, by omega⟩
theorem num_cap {n k : Nat} (hk : 0 < k) (h : n < 10 ^ k) : (partT (.int (n : Nat))).length ≤ k := by
  show (Str.ofString (toString ((n : Nat) : Int))).length ≤ k
  rw [TL.len_tl, TL.tl_num]
  exact TL.numL_len hk h
theorem part_gd {rs : List Str} {size en : Int} {p : PyData} {name : Str} (hr : ∀ z ∈ rs, wordS z = true) (hs : size ≤ 3) (he : en ≤ 24) (h : partB rs size en p name = true) : GdP p ∧ (partT p).length ≤ capN name := by
  unfold partB at h
  unfold capN
  split at h
  · rename_i c
    rw [if_pos c]
    cases p with
    | str z =>
      have hz := hr z (of_decide_eq_true h)
      exact ⟨.inr (.inl ⟨z, rfl, hz⟩), (wordS_iff hz).2.1⟩
    | _ => cases h
  · rename_i c
    rw [if_neg c]
    split at h
    · rename_i c
      rw [if_pos c]
      obtain ⟨n, rfl, hn⟩ := btw_gd h (by omega)
      exact ⟨.inr (.inr ⟨n, rfl, by omega⟩), num_cap (by decide) (by omega)⟩
    · rename_i c
      rw [if_neg c]
      split at h
      · rename_i c
        rw [if_pos c]
        obtain ⟨n, rfl, hn⟩ := btw_gd h (by omega)
        exact ⟨.inr (.inr ⟨n, rfl, by omega⟩), num_cap (by decide) (by omega)⟩
      · rename_i c
        rw [if_neg c]
        split at h
        · rename_i c
          rw [if_pos c]
          by_cases e : p = .none
          · subst e
            have e : (partT .none).length ≤ 2 := by decide +kernel
            exact ⟨.inl rfl, e⟩
          · have h' : btw p 0 (en - 1) = true := by
              cases p with
              | none => exact absurd rfl e
              | _ => exact h
            obtain ⟨n, rfl, hn⟩ := btw_gd h' (by omega)
            exact ⟨.inr (.inr ⟨n, rfl, by omega⟩), num_cap (by decide) (by omega)⟩
        · rename_i c
          rw [if_neg c]
          cases p with
          | str z => exact ⟨.inr (.inl ⟨z, rfl, h⟩), (wordS_iff h).2.1⟩
          | _ => cases h
theorem parts_gd {rs : List Str} {size en : Int} (hr : ∀ z ∈ rs, wordS z = true) (hs : size ≤ 3) (he : en ≤ 24) : ∀ {ps : List PyData} {ns : List Str}, partsB rs size en ps ns = true → (∀ p ∈ ps, GdP p) ∧ ps.length = ns.length ∧ ((ps.map partT).map (·.length)).sum ≤ (ns.map capN).sum
  | [], [], _ => ⟨fun _ h => (nomatch h), rfl, Nat.le_refl _⟩
  | p :: ps, n :: ns, h => by
    rw [partsB, Bool.and_eq_true] at h
    obtain ⟨a, b⟩ := part_gd hr hs he h.1
    obtain ⟨c, d, e⟩ := parts_gd hr hs he h.2
    refine ⟨fun q hq => ?_, congrArg (· + 1) d, ?_⟩
    · rcases List.mem_cons.1 hq with rfl | hq
      · exact a
      · exact c q hq
    · rw [List.map_cons, List.map_cons, List.sum_cons, List.map_cons, List.sum_cons]
      omega
theorem form_cap {k : Str} {ns : List Str} (h : formOf k = some ns) : wordS k = true ∧ k.length + (ns.map capN).sum + (1 + ns.length) ≤ 24 := by
  unfold formOf at h
  obtain ⟨e, he, rfl⟩ := Option.map_eq_some_iff.1 h
  have hm := List.mem_of_find?_eq_some he
  have hk : e.1 = k := by
    have := List.find?_some he
    exact eq_of_beq this
  subst hk
  have key : ∀ e ∈ formTab, wordS e.1 = true ∧ e.1.length + (e.2.map capN).sum + (1 + e.2.length) ≤ 24 := by decide +kernel
  exact key e hm
theorem row_gd {rs : List Str} {size en : Int} {d : PyData} (hr : ∀ z ∈ rs, wordS z = true) (hs : size ≤ 3) (he : en ≤ 24) (h : rowB rs size en d = true) : ∃ ps, d = .tuple ps ∧ ps ≠ [] ∧ ps.length ≤ 10 ∧ (∀ p ∈ ps, GdP p) ∧ (lineJ ps).length ≤ 24 := by
  obtain ⟨k, ps, rfl⟩ := rowB_str h
  cases hf : formOf k with
  | none =>
    have e : rowB rs size en (.tuple (.str k :: ps)) = (match formOf k with
      | some ns => partsB rs size en ps ns
      | none => false) := rfl
    rw [e, hf] at h
    cases h
  | some ns =>
    obtain ⟨a, b, c⟩ := parts_gd hr hs he (rowB_parts hf h)
    obtain ⟨d1, d2⟩ := form_cap hf
    refine ⟨_, rfl, by simp, row_ten h, fun p hp => ?_, ?_⟩
    · rcases List.mem_cons.1 hp with rfl | hp
      · exact .inr (.inl ⟨k, rfl, d1⟩)
      · exact a p hp
    · unfold lineJ
      refine Nat.le_trans (join_len _ _) ?_
      rw [List.map_cons, List.map_cons, List.sum_cons, List.length_cons, List.length_map]
      show k.length + _ + _ * 1 ≤ _
      omega
theorem gd_pt {d : PyData} (h : GdP d) : IsPt d := by
  rcases h with rfl | ⟨z, rfl, h⟩ | ⟨n, rfl, h⟩
  · exact .inl rfl
  · have := (wordS_iff h).2.1
    exact .inr (.inl ⟨z, rfl, by omega⟩)
  · exact .inr (.inr ⟨n, rfl, by omega⟩)
theorem gd_signs {d : PyData} (h : GdP d) : ∀ c ∈ TL.tl (partT d), 45 ≤ c ∧ c ≤ 122 := by
  rcases h with rfl | ⟨z, rfl, h⟩ | ⟨n, rfl, h⟩
  · decide +kernel
  · intro c hc
    have := (wordS_iff h).2.2 c hc
    omega
  · intro c hc
    have e : TL.tl (partT (.int (n : Nat))) = TL.numL n := TL.tl_num n
    rw [e] at hc
    have := TL.numL_digits n c hc
    omega
theorem read_word {z : Str} (h : wordS z = true) : readT z = .str z := by
  obtain ⟨h1, h2, h3⟩ := wordS_iff h
  have hne : z.cps.toList ≠ [] := fun e => by
    have e2 : z.length = z.cps.toList.length := rfl
    rw [e2, e] at h1
    exact absurd h1 (by decide)
  obtain ⟨c, r, e⟩ := List.exists_cons_of_ne_nil hne
  have hc := h3 c (by rw [e]; exact List.mem_cons_self)
  unfold readT
  rw [if_neg, if_neg]
  · intro hn
    unfold isNumT at hn
    rw [Bool.and_eq_true] at hn
    have := (digs_mem c).1 (of_decide_eq_true (List.all_eq_true.1 hn.2 c (by rw [e]; exact List.mem_cons_self)))
    omega
  · intro hz
    have e3 : ("-" : Str).cps.toList = [45] := by decide +kernel
    rw [hz, e3] at e
    cases e
    omega
theorem read_num {n : Nat} (h : n < 100) : readT (Str.ofString (toString ((n : Nat) : Int))) = .int (n : Nat) := by
  have et : (Str.ofString (toString ((n : Nat) : Int))).cps.toList = TL.numL n := TL.tl_num n
  have hl : (Str.ofString (toString ((n : Nat) : Int))).length = (TL.numL n).length := by rw [TL.len_tl, TL.tl_num]
  unfold readT
  rw [if_neg, if_pos, et, TL.numL_val]
  · unfold isNumT
    rw [Bool.and_eq_true, Bool.and_eq_true, decide_eq_true_eq, decide_eq_true_eq, hl, et]
    refine ⟨⟨List.length_pos_iff.2 (TL.numL_ne n), TL.numL_len (by decide) (by omega)⟩, List.all_eq_true.2 fun c hc => decide_eq_true ?_⟩
    exact (digs_mem c).2 (TL.numL_digits n c hc)
  · intro hz
    have e3 : ("-" : Str).cps.toList = [45] := by decide +kernel
    rw [hz, e3] at et
    have := TL.numL_digits n 45 (by rw [← et]; exact List.mem_cons_self)
    omega
theorem read_part {d : PyData} (h : GdP d) : readT (partT d) = d := by
  rcases h with rfl | ⟨z, rfl, h⟩ | ⟨n, rfl, h⟩
  · exact if_pos rfl
  · exact read_word h
  · exact read_num h
theorem read_parts : ∀ {ps : List PyData}, (∀ p ∈ ps, GdP p) → (ps.map partT).map readT = ps
  | [], _ => rfl
  | p :: ps, h => by rw [List.map_cons, List.map_cons, read_part (h p List.mem_cons_self), read_parts fun q hq => h q (List.mem_cons_of_mem _ hq)]
theorem joinL_mem {S : List Nat} {c : Nat} : ∀ {ps : List (List Nat)}, c ∈ TL.joinL S ps → c ∈ S ∨ ∃ p ∈ ps, c ∈ p
  | [p], h => .inr ⟨p, List.mem_cons_self, h⟩
  | p :: q :: r, h => by
    have h' : c ∈ p ++ (S ++ TL.joinL S (q :: r)) := h
    rcases List.mem_append.1 h' with h | h
    · exact .inr ⟨p, List.mem_cons_self, h⟩
    · rcases List.mem_append.1 h with h | h
      · exact .inl h
      · rcases joinL_mem h with h | ⟨x, hx, hc⟩
        · exact .inl h
        · exact .inr ⟨x, List.mem_cons_of_mem _ hx, hc⟩
theorem join_mem {y : Str} {ps : List Str} {c : Nat} (h : c ∈ TL.tl (Txt.join y ps)) : c ∈ TL.tl y ∨ ∃ p ∈ ps, c ∈ TL.tl p := by
  rw [TL.join_eq, TL.tl_join] at h
  rcases joinL_mem h with h | ⟨p, hp, hc⟩
  · exact .inl h
  · obtain ⟨q, hq, rfl⟩ := List.mem_map.1 hp
    exact .inr ⟨q, hq, hc⟩
/-- the words that a program's lines are made of -/
def lawWs (g : PrD) : List (List Str) := ["values", Str.ofString (toString g.size)] :: ("registers" :: g.ws) :: g.ds.map fun d => (itemsD d).map partT
theorem law_words {g : PrD} (hw : g.ws ≠ []) : lawLs g = (lawWs g).map (Txt.join " ") := by
  unfold lawLs lawWs
  rw [List.map_cons, List.map_cons, List.map_map]
  congr 1
  congr 1
  · apply TL.ext_tl
    rw [TL.tl_append, TL.join_eq, TL.tl_join, TL.join_eq, TL.tl_join]
    obtain ⟨a, r, e⟩ := List.exists_cons_of_ne_nil hw
    rw [e]
    rfl
theorem regs_words {ws : List Str} (h : regsB (.tuple (ws.map PyData.str)) = true) : ws ≠ [] ∧ ws.length ≤ 2 ∧ ∀ z ∈ ws, wordS z = true := by
  refine ⟨?_, regs_two h, ?_⟩
  · rintro rfl
    cases h
  · match ws, h with
    | [a], h =>
      intro z hz
      rw [List.mem_singleton.1 hz]
      exact h
    | [a, b], h =>
      have h' : (wordS a && wordS b && !strEq (.str a) (.str b)) = true := h
      rw [Bool.and_eq_true, Bool.and_eq_true] at h'
      intro z hz
      rcases List.mem_cons.1 hz with rfl | hz
      · exact h'.1.1
      · rw [List.mem_singleton.1 hz]
        exact h'.1.2
    | _ :: _ :: _ :: _, h => cases h
theorem size_num {g : PrD} (ok : g.Ok) : ∃ n : Nat, g.size = (n : Nat) ∧ n ≤ 3 := by
  have a := ok.size2
  have b := ok.size3
  exact ⟨g.size.toNat, by omega, by omega⟩
theorem words_clean {g : PrD} (ok : g.Ok) {ps : List Str} (hp : ps ∈ lawWs g) : ps ≠ [] ∧ ∀ p ∈ ps, ∀ c ∈ TL.tl p, 45 ≤ c ∧ c ≤ 122 := by
  obtain ⟨w1, w2, w3⟩ := regs_words ok.regs
  have wordC : ∀ z : Str, wordS z = true → ∀ c ∈ TL.tl z, 45 ≤ c ∧ c ≤ 122 := fun z hz => gd_signs (d := .str z) (.inr (.inl ⟨z, rfl, hz⟩))
  unfold lawWs at hp
  rcases List.mem_cons.1 hp with rfl | hp
  · refine ⟨by simp, fun p hp => ?_⟩
    rcases List.mem_cons.1 hp with rfl | hp
    · exact wordC _ (by decide +kernel)
    · rw [List.mem_singleton.1 hp]
      obtain ⟨n, en, hn⟩ := size_num ok
      rw [en]
      exact gd_signs (d := .int (n : Nat)) (.inr (.inr ⟨n, rfl, by omega⟩))
  · rcases List.mem_cons.1 hp with rfl | hp
    · refine ⟨by simp, fun p hp => ?_⟩
      rcases List.mem_cons.1 hp with rfl | hp
      · refine fun c hc => ?_
        have key : ∀ c ∈ TL.tl ("registers" : Str), 45 ≤ c ∧ c ≤ 122 := by decide +kernel
        exact key c hc
      · exact wordC _ (w3 p hp)
    · obtain ⟨d, hd, rfl⟩ := List.mem_map.1 hp
      have hm := ok.most
      obtain ⟨qs, rfl, q1, _, q3, _⟩ := row_gd w3 ok.size3 (by omega) (ok.rows d hd)
      refine ⟨fun e => q1 (List.map_eq_nil_iff.1 e), fun p hp => ?_⟩
      obtain ⟨x, hx, rfl⟩ := List.mem_map.1 hp
      exact gd_signs (q3 x hx)
theorem tl_nl : TL.tl ("\n" : Str) = [10] := by decide +kernel
theorem tl_sp : TL.tl (" " : Str) = [32] := by decide +kernel
theorem line_signs {g : PrD} (ok : g.Ok) {ps : List Str} (hp : ps ∈ lawWs g) : ∀ c ∈ TL.tl (Txt.join " " ps), 32 ≤ c ∧ c ≤ 122 := by
  intro c hc
  rcases join_mem hc with h | ⟨p, hp2, hc⟩
  · rw [tl_sp, List.mem_singleton] at h
    omega
  · have := (words_clean ok hp).2 p hp2 c hc
    omega
theorem joinL_snoc (S : List Nat) : ∀ {ps : List (List Nat)}, ps ≠ [] → TL.joinL S (ps ++ [[]]) = TL.joinL S ps ++ S
  | [p], _ => by simp [TL.joinL]
  | p :: q :: r, _ => by
    show p ++ (S ++ TL.joinL S ((q :: r) ++ [[]])) = p ++ (S ++ TL.joinL S (q :: r)) ++ S
    rw [joinL_snoc S (by simp), List.append_assoc, List.append_assoc]
theorem law_end (g : PrD) : lawT g = Txt.join "\n" (lawLs g ++ [("" : Str)]) := by
  apply TL.ext_tl
  unfold lawT
  rw [TL.tl_append, TL.join_eq, TL.tl_join, TL.join_eq, TL.tl_join, List.map_append]
  have e : [("" : Str)].map TL.tl = [[]] := by decide +kernel
  rw [e, joinL_snoc _ (by simp [lawLs])]
theorem lines_law {g : PrD} (ok : g.Ok) : linesT (lawT g) = lawWs g ++ [[("" : Str)]] := by
  have hw := (regs_words ok.regs).1
  unfold linesT
  rw [law_end, TL.split_join tl_nl (by decide +kernel) (by simp), List.map_append, law_words hw, List.map_map]
  · congr 1
    rw [show (lawWs g) = (lawWs g).map id from (List.map_id _).symm, List.map_map]
    refine List.map_congr_left fun ps hp => ?_
    show Txt.split (Txt.join " " ps) " " = ps
    obtain ⟨h1, h2⟩ := words_clean ok hp
    refine TL.split_join tl_sp (by decide +kernel) h1 fun p hp2 h => ?_
    have := h2 p hp2 _ h
    omega
  · intro p hp h
    rcases List.mem_append.1 hp with hp | hp
    · rw [law_words hw] at hp
      obtain ⟨ps, hps, rfl⟩ := List.mem_map.1 hp
      have := line_signs ok hps _ h
      omega
    · rw [List.mem_singleton.1 hp] at h
      cases h
theorem rows_read {g : PrD} (ok : g.Ok) : (g.ds.map fun d => (itemsD d).map partT).map rowD = g.ds := by
  obtain ⟨w1, w2, w3⟩ := regs_words ok.regs
  rw [List.map_map]
  refine (List.map_congr_left (g := id) fun d hd => ?_).trans (List.map_id _)
  have hm := ok.most
  obtain ⟨qs, rfl, q1, _, q3, _⟩ := row_gd w3 ok.size3 (by omega) (ok.rows d hd)
  show PyData.tuple ((qs.map partT).map readT) = _
  rw [read_parts q3]
  rfl
theorem law_parse {g : PrD} (ok : g.Ok) : parseG (lawT g) = some g := by
  obtain ⟨w1, w2, w3⟩ := regs_words ok.regs
  obtain ⟨n, en, hn⟩ := size_num ok
  have hds : g.ds ≠ [] := fun e => by
    have := ok.least
    rw [e] at this
    exact absurd this (by decide)
  have hr : readG (linesT (lawT g)) = some g := by
    rw [lines_law ok]
    unfold lawWs
    obtain ⟨d0, r, ed⟩ := List.exists_cons_of_ne_nil hds
    have e1 : readG ([("values" : Str), Str.ofString (toString g.size)] :: (("registers" : Str) :: g.ws) :: (g.ds.map fun d => (itemsD d).map partT) ++ [[("" : Str)]]) = goodG g.ws (readT (Str.ofString (toString g.size))) (((g.ds.map fun d => (itemsD d).map partT) ++ [[("" : Str)]]).dropLast.map rowD) := by
      rw [ed]
      rfl
    rw [e1, List.dropLast_concat, rows_read ok, en, read_num (by omega)]
    unfold goodG
    have a2 := ok.size2
    have a3 := ok.size3
    rw [if_pos, show intOf (.int (n : Nat)) = g.size from en.symm]
    refine ⟨ok.regs, ?_, ?_, ?_⟩
    · show (decide ((2 : Int) ≤ (n : Int)) && decide ((n : Int) ≤ 3)) = true
      rw [decide_eq_true (by omega), decide_eq_true (by omega)]
      rfl
    · show (decide (1 ≤ g.ds.length) && decide (g.ds.length ≤ 24)) = true
      rw [decide_eq_true ok.least, decide_eq_true ok.most]
      rfl
    · unfold firstBad
      refine List.findIdx?_eq_none_iff.2 fun d hd => ?_
      rw [show intOf (.int (n : Nat)) = g.size from en.symm, ok.rows d hd]
      rfl
  unfold parseG
  rw [hr]
  show (if progT g = lawT g then some g else none) = some g
  rw [if_pos (law_prog w1).symm]
theorem ok_pt {g : PrD} (ok : g.Ok) : PtOk g := by
  obtain ⟨w1, w2, w3⟩ := regs_words ok.regs
  obtain ⟨n, en, hn⟩ := size_num ok
  have hm := ok.most
  refine ⟨fun d hd => ?_, fun z hz => ?_, ⟨n, en, by omega⟩, hm, by omega⟩
  · obtain ⟨ps, e, _, h2, h3, _⟩ := row_gd w3 ok.size3 (by omega) (ok.rows d hd)
    exact ⟨ps, e, fun p hp => gd_pt (h3 p hp), h2⟩
  · have := (wordS_iff (w3 z hz)).2.1
    omega
theorem ws_sum : ∀ {ws : List Str}, ws.length ≤ 2 → (∀ z ∈ ws, z.length ≤ 8) → (ws.map (·.length)).sum ≤ 16
  | [], _, _ => Nat.zero_le _
  | [a], _, h => by
    have := h a (by simp)
    simp
    omega
  | [a, b], _, h => by
    have := h a (by simp)
    have := h b (by simp)
    simp
    omega
  | _ :: _ :: _ :: _, h, _ => by
    simp at h
theorem law_short {g : PrD} (ok : g.Ok) : OkU (lawT g) := by
  obtain ⟨w1, w2, w3⟩ := regs_words ok.regs
  obtain ⟨n, en, hn⟩ := size_num ok
  have hm := ok.most
  refine ⟨?_, ?_⟩
  · unfold lawT
    rw [TL.len_tl, TL.tl_append, List.length_append, ← TL.len_tl, ← TL.len_tl]
    have jl : (Txt.join "\n" (lawLs g)).length ≤ ((lawLs g).map (·.length)).sum + (lawLs g).length * 1 := join_len "\n" (lawLs g)
    have e1 : (lawLs g).length = g.ds.length + 2 := by simp [lawLs]
    have hs : ((lawLs g).map (·.length)).sum ≤ 8 + 28 + g.ds.length * 24 := by
      unfold lawLs
      rw [List.map_cons, List.sum_cons, List.map_cons, List.sum_cons]
      have h0 : ("values " ++ Str.ofString (toString g.size) : Str).length ≤ 8 := by
        rw [TL.len_tl, TL.tl_append, List.length_append, ← TL.len_tl, ← TL.len_tl, en]
        have := num_cap (n := n) (k := 1) (by decide) (by omega)
        have e : (Str.ofString (toString ((n : Nat) : Int))).length = (partT (.int (n : Nat))).length := rfl
        rw [e]
        show 7 + _ ≤ 8
        omega
      have h1 : ("registers " ++ Txt.join " " g.ws : Str).length ≤ 28 := by
        rw [TL.len_tl, TL.tl_append, List.length_append, ← TL.len_tl, ← TL.len_tl]
        have : (Txt.join " " g.ws).length ≤ (g.ws.map (·.length)).sum + g.ws.length * 1 := join_len " " g.ws
        have := ws_sum w2 fun z hz => (wordS_iff (w3 z hz)).2.1
        show 10 + _ ≤ 28
        omega
      have h2 : ((g.ds.map fun d => lineJ (itemsD d)).map (·.length)).sum ≤ g.ds.length * 24 := by
        refine Nat.le_trans (sum_le' (b := 24) fun z hz => ?_) (by rw [List.length_map]; exact Nat.le_refl _)
        obtain ⟨d, hd, rfl⟩ := List.mem_map.1 hz
        obtain ⟨ps, rfl, _, _, _, h⟩ := row_gd w3 ok.size3 (by omega) (ok.rows d hd)
        exact h
      omega
    show _ + 1 ≤ _
    omega
  · refine val_iff.2 fun c hc => ?_
    have hc' : c ∈ TL.tl (Txt.join "\n" (lawLs g) ++ "\n") := hc
    rw [TL.tl_append] at hc'
    rcases List.mem_append.1 hc' with h | h
    · rcases join_mem h with h | ⟨p, hp, h⟩
      · rw [tl_nl, List.mem_singleton] at h
        omega
      · rw [law_words w1] at hp
        obtain ⟨ps, hps, rfl⟩ := List.mem_map.1 hp
        have := line_signs ok hps _ h
        omega
    · rw [tl_nl, List.mem_singleton] at h
      omega
theorem OkU.ok {z : Str} (h : OkU z) : OkT z := ⟨by have := h.len; omega, h.cps⟩

end YY

set_option maxRecDepth 100000
set_option maxHeartbeats 4000000
namespace YY
open PySem PySem.Spec PyProof.Rows L2 XX
local macro_rules | `(tactic| walk_at "wp") => `(tactic| simp only [Int.zero_add, L2.start, LcEnd, List.append_nil, List.cons.injEq, List.cons_append, List.getElem?_cons_succ, List.getElem?_cons_zero, List.length_cons, List.length_nil, List.map_cons, List.map_nil, List.nil_append, List.replicate, List.replicate_succ, List.replicate_zero, List.set_cons_succ, List.set_cons_zero, Nat.reduceAdd, Nat.reduceSub, Option.some.injEq, StX.tMakeR, StX.tStar, V.bl.injEq, V.int.injEq, V.ref.injEq, V.str.injEq, V.ty.injEq, WE, and_assoc, and_false, and_true, bool_ite_false, bool_ite_true, cxOf_K, cxOf_noxK, dec_ite, decide_eq_true_eq, exists_and_left, exists_and_right, exists_const, exists_eq_left, exists_eq_left', false_and, false_or, gCons, gName, gNil, gSub, gTup, iEnumA, iItems, iKeys, iList, iRng1, iRng2, iStr, iTup, iZipB, ite_false, ite_true, ndec_ite, or_false, rAppend, rCat, rCatT, rEq, rEqI, rEqK, rEqV, rExt2, rI, rI0, rIn, rInRg, rIndex, rIsD, rIsE, rIsE2, rIxD, rIxL, rIxS, rIxT, rLenI, rLenK, rListStr, rMax, rMaxDef, rSetIM, rEqT, sFldAug, rAdd, rMin, rMulS, rNe, rNeDA, rNeV, rRange1, rRep, rRepA, rReprE, rReprI, rSetD, rSetI, rSetL, rSlL, rSlT, rSortedSet, rU, reduceCtorEq, reduceIte, sFld, tAnd, tAndV, tAsg, tAug, tB, tBM, tBM0, tC, tCB, tCKw, tDGetT, tCall, tCallS, tChain, tCons, tDGet, tDIn, tDNewK, tDNotIn, tDcT_eq, tDc_eq, tDisp, tDrop, tErr, tFld, tFor_eq, tIf, tIfS, tIxI, tLc2_eq, tLc_eq, tLenSetS, tLock, tLockE, tLst, tLstRg, tM1, tMakeRS, tMakeS, tMakeV, tMakeVS, tMeth, tMethX, tMkO, tMulA, tMulD, tNext, tNil, tNoPart, tNot, tNotV, tOp, tOpI, tOpR, tOr, tOrV, tOst, tPairs, tPar, tPar3, tPart, tRet, tRetN, tRevT, tRg2, tSMeth, tSeq, tSl, tTest, tTup, tUn, tVar, tVeI, tXf, tYes, true_and, wAs, wMA, wipe, rTupOf])
/-! ### _law_longest -/
abbrev sLongest : Stmt := topS 61
def wsL : List Str := ["abcdefgh", "hgfedcba"]
def anyL : List V := [.str "any", .str "abcdefgh", .int 2, .str "hgfedcba"]
def ifL : List V := [.str "if", .str "hgfedcba", .int 1, .int 24, .int 24]
def grpL : List V := [.str "group", .str "ijklmnop", .int 23]
def baseL : List PyData := [.tuple [.str "any", .str "abcdefgh", .int 2, .str "hgfedcba"], .tuple [.str "if", .str "hgfedcba", .int 1, .int 24, .int 24], .tuple [.str "group", .str "ijklmnop", .int 23]]
/-- the program of the longest text -/
def gL : PrD := ⟨wsL, 3, (List.replicate 8 baseL).flatten⟩
theorem gL_ok : gL.Ok := by
  refine ⟨by decide +kernel, by decide +kernel, by decide, by decide, by decide +kernel, by decide +kernel, fun d hd => ?_, fun d hd => ?_⟩
  · have hm : d ∈ baseL := by
      obtain ⟨l, hl, hd⟩ := List.mem_flatten.1 hd
      rw [(List.mem_replicate.1 hl).2] at hd
      exact hd
    have key : ∀ d ∈ baseL, rowB wsL 3 24 d = true := by decide +kernel
    exact key d hm
  · have hm : d ∈ baseL := by
      obtain ⟨l, hl, hd⟩ := List.mem_flatten.1 hd
      rw [(List.mem_replicate.1 hl).2] at hd
      exact hd
    have k1 : ∀ d ∈ baseL, sm d = true := by decide +kernel
    have k2 : ∀ d ∈ baseL, d.depth ≤ 2 := by decide +kernel
    have k3 : ∀ d ∈ baseL, d.weight ≤ 2000 := by decide +kernel
    exact ⟨k1 d hm, k2 d hm, k3 d hm⟩
theorem prEq_self {g : PrD} (ok : g.Ok) : prEq g g = true := by
  unfold prEq
  rw [SeqAt.eqv_refl _ (SeqAt.canLay_of_shaped ok.shT), SeqAt.eqv_refl _ (SeqAt.canLay_of_shaped ok.shW), decide_eq_true rfl]
  rfl
theorem prog_ok {g : PrD} (ok : g.Ok) : progT g = lawT g := (law_prog (regs_words ok.regs).1).symm
theorem dps_app {K : PySem.W.Frag} {H : Hp} : ∀ {a b : List V} {ds es : List PyData}, DpAll K H a ds → DpAll K H b es → DpAll K H (a ++ b) (ds ++ es)
  | _, _, _, _, .nil, h => h
  | _, _, _, _, .cons h t, g => .cons h (dps_app t g)
theorem dps_rep {K : PySem.W.Frag} {H : Hp} {xs : List V} {ds : List PyData} (h : DpAll K H xs ds) : ∀ n, DpAll K H (List.replicate n xs).flatten (List.replicate n ds).flatten
  | 0 => .nil
  | n + 1 => by
    rw [List.replicate_succ, List.replicate_succ, List.flatten_cons, List.flatten_cons]
    exact dps_app h (dps_rep h n)
section
variable {P : Program} {w : World} {K : PySem.W.Frag} {mg : Str → Option Value} {base : Heap}
def spLongest : Sp := fun vs H Q _ => vs = [] ∧ ∀ G, Same H G → Q (.bl true) G
theorem scLongest : FnScope ["words", "rows", "program", "text"] [] (defScope sLongest) := ⟨rfl, rfl, rfl, by decide +kernel, rfl, by decide +kernel, by decide +kernel⟩
theorem c_longest {f CP cP cT cR cN cW cB : Addr} {fd : FuncData} (D : Def K mg "_law_longest" sLongest []) (T : Bl4 mg) (gP : mg "Program" = some (.ref CP)) (M : Mk K CP f) (pc : ProgC K CP) (nf : PySem.W.notFirst K CP (.type "tuple") = true)
    (hb : KBn K fd ["self", "rows", "registers", "values"] 2 ["registers", "values"] gCat gCat) (F : FnOk P w K mg base (L2.CX P w) 5 f fd ["self", "rows", "registers", "values"] (spProg K CP cR cN cW cB))
    (cF : FnC P w K mg base (L2.CX P w) 4 "format_program" ["program"] (spFormatP K CP cP)) (cPP : FnC P w K mg base (L2.CX P w) 8 "parse_program" ["text"] (spParseP K CP cT)) (cL : FnC P w K mg base CX0 2 "_law_text" ["plan"] (spLText K))
    (mE : MtC P w K mg base CX0 1 CP "__eq__" ["self", "other"] (spEqP K CP)) (mL : MtC P w K mg base CX0 1 CP "__len__" ["self"] (spLen K CP)) : FnC P w K mg base CX0 9 "_law_longest" [] spLongest := by
  refine D.ok scLongest (fun vs H Q E h => ?_) (fun f' cdv A outer s H vs Q E hr h => ?_)
  · obtain ⟨rfl, _⟩ := h
    rfl
  · obtain ⟨rfl, k⟩ := h
    have sc := scLongest
    have hr1 : Room 1 _ := hr.mono (by decide)
    have hr2 : Room 2 _ := hr.mono (by decide)
    have hr4 : Room 4 _ := hr.mono (by decide)
    have hr6 : Room 6 _ := hr.mono (by decide)
    have hr8 : Room 8 _ := hr.mono (by decide)
    refine ⟨_, (pss_cut (ps_set (i := 0) sc.nd rfl (Or.inl rfl) (pe_tup (pa_cons pe_str (pa_cons pe_str pa_nil))))
      (pss_cut (ps_set (i := 1) sc.nd rfl (Or.inl rfl) (pe_op op_rep (pe_lst (pa_cons (pe_tup (pa_cons pe_str (pa_cons (pe_ix ix_tup (pv 0) pe_int (fun _ _ => rfl)) (pa_cons pe_int (pa_cons (pe_ix ix_tup (pv 0) pe_int (fun _ _ => rfl)) pa_nil))))) (pa_cons (pe_tup (pa_cons pe_str (pa_cons (pe_ix ix_tup (pv 0) pe_int (fun _ _ => rfl)) (pa_cons pe_int (pa_cons pe_int (pa_cons pe_int pa_nil)))))) (pa_cons (pe_tup (pa_cons pe_str (pa_cons pe_str (pa_cons pe_int pa_nil)))) pa_nil)))) pe_int))
      (pss_cut (ps_set (i := 2) sc.nd rfl (Or.inl rfl) (pe_makeS (E := fun _ => E0) (n := 1) M F hr6 rfl gP hb (fun σ => passLAt σ) (pa_cons (pv 1) pa_nil) (pk_cons (pv 0) (pk_cons pe_int pk_nil))))
      (pss_cut (ps_set (i := 3) sc.nd rfl (Or.inl rfl) (pe_c cL hr2 rfl (pa_cons (pe_disp (pps_cons pe_str (pe_callTy (call_tupK K rfl) (by rfl) T.n_tuple (by decide +kernel) (pa_cons (pv 1) pa_nil)) (pps_cons pe_str (pv 0) (pps_cons pe_str pe_int pps_nil))) rfl rfl (by decide) (by decide)) pa_nil)))
      (pss_one (ps_ret (pe_and (pe_cmpR op_eq (pe_cX (E := fun _ => E0) cF hr4 (fun σ => passLAt σ) rfl (pa_cons (pv 2) pa_nil)) (pv 3) (nomark _)) (pe_and (pe_cmpR (op_eqI mE nf hr1) (pe_cX (E := fun _ => E0) cPP hr8 (fun σ => passLAt σ) rfl (pa_cons (pv 3) pa_nil)) (pv 2) (nomark _)) (L2.pe_one (pe_cmpR op_eq (pe_callB (call_lenI mL hr2) (by rfl) T.n_len (by decide +kernel) (pa_cons (pv 2) pa_nil)) pe_int (nomark _))))))))))), ?_⟩
    have hz := sizeLine_eq
    refine cut_hide (fun τ G => ∃ wa, τ = [some (.ref wa), none, none, none] ∧ Same H G ∧ G wa = some (.tup (wsL.map V.str))) (fun M' hM => ?_) ?_
    · walk_at "wp"
      exact ⟨by omega, fun p np => hM _ _ ⟨p, rfl, same_new np, upd_same⟩⟩
    rintro τ G ⟨wa, rfl, s1, hwa⟩
    refine cut_hide (fun τ G1 => ∃ ra t1 t2 t3, τ = [some (.ref wa), some (.ref ra), none, none] ∧ Same G G1 ∧ G1 ra = some (.lst (List.replicate 8 [V.ref t1, V.ref t2, V.ref t3]).flatten) ∧ G1 t1 = some (.tup anyL) ∧ G1 t2 = some (.tup ifL) ∧ G1 t3 = some (.tup grpL)) (fun M' hM => ?_) ?_
    · walk_at "wp"
      refine ⟨_, SqT.of hwa, _, at_of (j := 0) rfl rfl, _, SqT.of hwa, _, at_of (j := 1) rfl rfl, by omega, fun p1 n1 => ?_⟩
      have s2 := same_new (o := .tup anyL) n1
      have e1 : (upd G p1 (.tup anyL)) p1 = some (.tup anyL) := upd_same
      show ∃ x, SqT K (upd G p1 (.tup anyL)) wa x ∧ _
      refine ⟨_, SqT.of (s2 _ _ hwa), _, at_of (j := 1) rfl rfl, by omega, fun p2 n2 => ⟨by omega, ?_⟩⟩
      have s3 := same_new (o := .tup ifL) n2
      have e2 : (upd (upd G p1 (.tup anyL)) p2 (.tup ifL)) p2 = some (.tup ifL) := upd_same
      intro p3 n3
      have s4 := same_new (o := .tup grpL) n3
      have e3 : (upd (upd (upd G p1 (.tup anyL)) p2 (.tup ifL)) p3 (.tup grpL)) p3 = some (.tup grpL) := upd_same
      refine ⟨by omega, fun p4 n4 => ⟨_, upd_same, by decide, by decide, ?_, fun p5 n5 => ?_⟩⟩
      · show 3 * 8 ≤ _
        omega
      have s5 := same_new (o := .lst [V.ref p1, V.ref p2, V.ref p3]) n4
      have s6 := same_new (o := .lst (List.replicate 8 [V.ref p1, V.ref p2, V.ref p3]).flatten) n5
      have s56 := s5.trans s6
      exact hM _ _ ⟨p5, p1, p2, p3, rfl, ((s2.trans s3).trans s4).trans s56, upd_same, s56 _ _ (s4 _ _ (s3 _ _ e1)), s56 _ _ (s4 _ _ e2), s56 _ _ e3⟩
    rintro τ G1 ⟨ra, t1, t2, t3, rfl, s2', hra, h1, h2, h3⟩
    have hrows : DpAll K G1 (List.replicate 8 [V.ref t1, V.ref t2, V.ref t3]).flatten gL.ds := dps_rep (.cons (.tup (SqT.of h1) (.cons (.str _) (.cons (.str _) (.cons (.int _) (.cons (.str _) .nil))))) (.cons (.tup (SqT.of h2) (.cons (.str _) (.cons (.str _) (.cons (.int _) (.cons (.int _) (.cons (.int _) .nil)))))) (.cons (.tup (SqT.of h3) (.cons (.str _) (.cons (.str _) (.cons (.int _) .nil)))) .nil))) 8
    refine cut_hide (fun τ G2 => ∃ y, τ = [some (.ref wa), some (.ref ra), some (.ref y), none] ∧ Same G1 G2 ∧ ProgAt K CP G2 y gL) (fun M' hM => ?_) ?_
    · walk_at "wp"
      intro x dx hx hdx hne
      have s0 : Same G1 (upd (upd G1 dx (.own x)) x (.ins CP dx [])) := same_mut (same_new hdx) hx
      refine spProg_good (g := gL) (rd := .list gL.ds) upd_same pc (.lst (SqL.of (s0 _ _ hra)) (dps_same s0 _ _ hrows)) ?_ rfl (.tup (SqT.of ((s2'.trans s0) _ _ hwa)) (dpAll_strs _)) gL_ok fun F ex hp => ⟨rfl, hM _ _ ⟨x, rfl, fun b o hbo => ?_, hp⟩⟩
      · decide +kernel
      · refine ex b o ?_ (s0 b o hbo)
        intro hbx
        rw [hbx, hx] at hbo
        cases hbo
    rintro τ G2 ⟨y, rfl, s3, hy⟩
    refine cut_hide (fun τ G3 => τ = [some (.ref wa), some (.ref ra), some (.ref y), some (.str (lawT gL))] ∧ Same G2 G3) (fun M' hM => ?_) ?_
    · walk_at "wp"
      intro p np
      have sp := same_new (o := .dK []) np
      refine ⟨_, .inl ⟨SqL.of ((s3.trans sp) _ _ hra), fun l nl => ?_⟩⟩
      have sl := same_new (o := .tup (List.replicate 8 [V.ref t1, V.ref t2, V.ref t3]).flatten) nl
      have hl : (upd (upd G2 p (.dK [])) l (.tup (List.replicate 8 [V.ref t1, V.ref t2, V.ref t3]).flatten)) l = some (.tup (List.replicate 8 [V.ref t1, V.ref t2, V.ref t3]).flatten) := upd_same
      have hpd : (upd (upd G2 p (.dK [])) l (.tup (List.replicate 8 [V.ref t1, V.ref t2, V.ref t3]).flatten)) p = some (.dK []) := sl _ _ upd_same
      refine ⟨hpd, planKV l wa 3, rfl, by show 3 ≤ 15; decide, ?_⟩
      generalize upd (upd G2 p (.dK [])) l (.tup (List.replicate 8 [V.ref t1, V.ref t2, V.ref t3]).flatten) = A at sl hl hpd ⊢
      have sA : Same G2 A := sp.trans sl
      have sD : Same G2 (upd A p (.dK (mergeK [] (planKV l wa 3)))) := same_mut sA np
      rw [merge_plan] at sD ⊢
      have hl2 : (upd A p (.dK (planKV l wa 3))) l = some (.tup (List.replicate 8 [V.ref t1, V.ref t2, V.ref t3]).flatten) := by
        rw [upd_ne (ne_of hl hpd (by intro z; cases z))]
        exact hl
      exact ⟨p, l, wa, _, gL, rfl, upd_same, SqT.of ((s2'.trans (s3.trans sD)) _ _ hwa), SqT.of hl2, dps_same (s3.trans sD) _ _ hrows, ok_pt gL_ok, fun F sF => hM _ _ ⟨rfl, sD.trans sF⟩⟩
    rintro τ G3 ⟨rfl, s4⟩
    walk_at "wp"
    have eT := prog_ok gL_ok
    have hO := (law_short gL_ok).ok
    have hP := law_parse gL_ok
    generalize lawT gL = zL at eT hO hP ⊢
    refine ⟨_, rfl, .inl ⟨y, gL, rfl, hy.same s4, ok_pt gL_ok, fun F1 sF => ?_⟩⟩
    have hyF := (hy.same s4).same sF
    rw [eT]
    refine ⟨by unfold scal; simp, Eq.mpr (if_pos rfl) ?_⟩
    refine ⟨_, rfl, .inr ⟨_, rfl, hO, (fun e => by rw [hP] at e; cases e), fun g eg y2 F2 s2 n2 hy2 => ?_⟩⟩
    have eg' : g = gL := Option.some.inj (eg.symm.trans hP)
    subst eg'
    obtain ⟨d2, _, _, _, _, q2, _⟩ := id hy2
    obtain ⟨d1, _, _, _, _, q1, _⟩ := id (hyF.same s2)
    refine ⟨y2, rfl, ⟨_, _, q2⟩, .inl ⟨y, _, _, rfl, q1⟩, y2, _, gL, rfl, hy2, gL_ok, .inl ⟨y, gL, rfl, hyF.same s2, gL_ok, ?_⟩⟩
    rw [prEq_self gL_ok]
    refine ⟨true, rfl, Eq.mpr (if_pos rfl) ⟨⟨_, _, q1⟩, y, gL, rfl, hyF.same s2, ?_⟩⟩
    have el : gL.ds.length = 24 := by decide +kernel
    rw [el]
    exact ⟨_, rfl, by decide, by decide, rfl, k _ (((((s1.trans s2').trans s3).trans s4).trans sF).trans s2)⟩
end

end YY

set_option maxRecDepth 100000
set_option maxHeartbeats 4000000
namespace YY
open PySem PySem.Spec PyProof.Rows L2 XX
local macro_rules | `(tactic| walk_at "wp") => `(tactic| simp only [Int.zero_add, L2.start, LcEnd, List.append_nil, List.cons.injEq, List.cons_append, List.getElem?_cons_succ, List.getElem?_cons_zero, List.length_cons, List.length_nil, List.map_cons, List.map_nil, List.nil_append, List.replicate, List.replicate_succ, List.replicate_zero, List.set_cons_succ, List.set_cons_zero, Nat.reduceAdd, Nat.reduceSub, Option.some.injEq, StX.tMakeR, StX.tStar, V.bl.injEq, V.int.injEq, V.ref.injEq, V.str.injEq, V.ty.injEq, WE, and_assoc, and_false, and_true, bool_ite_false, bool_ite_true, cxOf_K, cxOf_noxK, dec_ite, decide_eq_true_eq, exists_and_left, exists_and_right, exists_const, exists_eq_left, exists_eq_left', false_and, false_or, gCons, gName, gNil, gSub, gTup, iEnumA, iItems, iKeys, iList, iRng1, iRng2, iStr, iTup, iZipB, ite_false, ite_true, ndec_ite, or_false, rAppend, rCat, rCatT, rEq, rEqI, rEqK, rEqV, rExt2, rI, rI0, rIn, rInRg, rIndex, rIsD, rIsE, rIsE2, rIxD, rIxL, rIxS, rIxT, rLenI, rLenK, rListStr, rMax, rMaxDef, rSetIM, rEqT, sFldAug, rAdd, rMin, rMulS, rNe, rNeDA, rNeV, rRange1, rRep, rRepA, rReprE, rReprI, rSetD, rSetI, rSetL, rSlL, rSlT, rSortedSet, rU, reduceCtorEq, reduceIte, sFld, tAnd, tAndV, tAsg, tAug, tB, tBM, tBM0, tC, tCB, tCKw, tDGetT, tCall, tCallS, tChain, tCons, tDGet, tDIn, tDNewK, tDNotIn, tDcT_eq, tDc_eq, tDisp, tDrop, tErr, tFld, tFor_eq, tIf, tIfS, tIxI, tLc2_eq, tLc_eq, tLenSetS, tLock, tLockE, tLst, tLstRg, tM1, tMakeRS, tMakeS, tMakeV, tMakeVS, tMeth, tMethX, tMkO, tMulA, tMulD, tNext, tNil, tNoPart, tNot, tNotV, tOp, tOpI, tOpR, tOr, tOrV, tOst, tPairs, tPar, tPar3, tPart, tRet, tRetN, tRevT, tRg2, tSMeth, tSeq, tSl, tTest, tTup, tUn, tVar, tVeI, tXf, tYes, true_and, wAs, wMA, wipe, rTupOf, rNeD])
/-! ### _law_data_right -/
abbrev sDataR : Stmt := topS 60
theorem cut_init (xs : List V) : cutV xs none (some (-1)) = xs.dropLast := by
  have e1 : HT.sIx xs.length xs.length (some (-1)) = xs.length - 1 := by
    show (if (-1 : Int) < 0 then ((-1 : Int) + (xs.length : Int)).toNat else min (-1 : Int).toNat xs.length) = _
    rw [if_pos (by decide)]
    omega
  have e3 : HT.sIx xs.length 0 none = 0 := rfl
  unfold cutV
  rw [e1, e3, Nat.sub_zero, List.drop_zero, List.dropLast_eq_take]
def valC (ns : List Int) : Prop := ∀ n ∈ ns, 0 ≤ n ∧ n ≤ 2
theorem num_sign {n : Int} (h : 0 ≤ n ∧ n ≤ 2) : TL.tl (Str.ofString (toString n)) = [48 + n.toNat] := by
  obtain ⟨m, rfl⟩ := Int.eq_ofNat_of_zero_le h.1
  rw [TL.tl_num]
  exact TL.numL_lt (by omega)
theorem flat_signs : ∀ {ns : List Int}, valC ns → ((ns.map fun n => Str.ofString (toString n)).map TL.tl).flatten = ns.map fun n => 48 + n.toNat
  | [], _ => rfl
  | n :: ns, h => by
    rw [List.map_cons, List.map_cons, List.flatten_cons, num_sign (h n List.mem_cons_self), flat_signs fun m hm => h m (List.mem_cons_of_mem _ hm)]
    rfl
theorem data_tl {ns : List Int} (hn : ns ≠ []) (h : valC ns) : TL.tl (dataT ns) = ns.map fun n => 48 + n.toNat := by
  unfold dataT
  rw [if_pos (List.length_pos_iff.2 hn), TL.join_eq, TL.tl_join]
  have e : TL.tl ("" : Str) = [] := by decide +kernel
  rw [e, joinL_nil, flat_signs h]
theorem tl_dash : TL.tl ("-" : Str) = [45] := by decide +kernel
theorem data_len {ns : List Int} (h : valC ns) (hl : ns.length ≤ 12) : 1 ≤ (dataT ns).length ∧ (dataT ns).length ≤ 12 := by
  by_cases c : ns = []
  · subst c
    decide +kernel
  · rw [TL.len_tl, data_tl c h, List.length_map]
    exact ⟨List.length_pos_iff.2 c, hl⟩
theorem data_signs {ns : List Int} (h : valC ns) : ∀ c ∈ TL.tl (dataT ns), 45 ≤ c ∧ c ≤ 50 := by
  by_cases c : ns = []
  · subst c
    decide +kernel
  · intro x hx
    rw [data_tl c h] at hx
    obtain ⟨n, hn, rfl⟩ := List.mem_map.1 hx
    have := h n hn
    omega
theorem data_parse {ns : List Int} (h : valC ns) (hl : ns.length ≤ 12) (ht : trimZ ns = ns) : parseDs (dataT ns) = some ns := by
  by_cases c : ns = []
  · subst c
    decide +kernel
  · have et := data_tl c h
    have hd : (dataT ns).cps.toList = ns.map fun n => 48 + n.toNat := et
    have hlen := data_len h hl
    unfold parseDs
    rw [if_neg (by omega), if_neg, if_neg, hd, List.map_map]
    · congr 1
      refine (List.map_congr_left (g := id) fun n hn => ?_).trans (List.map_id _)
      have := h n hn
      show (((48 + n.toNat : Nat) : Int) - 48) = n
      omega
    · rintro (e | e | e)
      · omega
      · rw [hd] at e
        have hg : ns.getLast? = some (ns.getLast c) := List.getLast?_eq_getLast c
        rw [List.getLast?_map, hg] at e
        have e' : 48 + (ns.getLast c).toNat = 48 := Option.some.inj e
        have hm := h _ (List.getLast_mem c)
        have e0 : ns.getLast c = 0 := by omega
        have es : ns = ns.dropLast ++ [0] := by
          rw [← e0]
          exact (List.dropLast_concat_getLast c).symm
        have e2 : trimZ ns = trimZ ns.dropLast := by
          conv => lhs; rw [es]
          exact trimZ_zero _
        rw [e2] at ht
        have l1 : (trimZ ns.dropLast).length ≤ ns.dropLast.length := by
          unfold trimZ
          rw [List.length_reverse]
          exact Nat.le_trans (List.Sublist.length_le (List.dropWhile_sublist _)) (by rw [List.length_reverse]; exact Nat.le_refl _)
        rw [ht, List.length_dropLast] at l1
        have := List.length_pos_iff.2 c
        omega
      · rw [hd] at e
        have : ((ns.map fun n => 48 + n.toNat).all fun c => decide (c ∈ bin3.cps.toList)) = true := List.all_eq_true.2 fun x hx => by
          obtain ⟨n, hn, rfl⟩ := List.mem_map.1 hx
          have := h n hn
          exact decide_eq_true ((bin_mem _).2 (by omega))
        rw [this] at e
        cases e
    · intro e
      rw [e, tl_dash] at et
      obtain ⟨a, r, rfl⟩ := List.exists_cons_of_ne_nil c
      rw [List.map_cons] at et
      injection et with e1 e2
      omega
/-- a sign that is none of data -/
theorem bad_sign {z : Str} {c : Nat} (hc : c ∈ TL.tl z) (hb : c < 48 ∨ 50 < c) (hn : z ≠ "-") : parseDs z = none := by
  unfold parseDs
  by_cases h1 : 60 < z.length
  · rw [if_pos h1]
  · rw [if_neg h1, if_neg hn, if_pos]
    refine .inr (.inr ?_)
    cases e : z.cps.toList.all fun c => decide (c ∈ bin3.cps.toList) with
    | false => rfl
    | true =>
      have := (bin_mem c).1 (of_decide_eq_true (List.all_eq_true.1 e c hc))
      omega
theorem bad_last {z : Str} (hc : (TL.tl z).getLast? = some 48) : parseDs z = none := by
  unfold parseDs
  by_cases h1 : 60 < z.length
  · rw [if_pos h1]
  · rw [if_neg h1, if_neg, if_pos (.inr (.inl hc))]
    rintro rfl
    rw [tl_dash] at hc
    cases hc
def oddT (t : Str) : List Str := [t ++ "0", t ++ "3", "", "0", "--", " " ++ t, t ++ "\n", strRep "1" 61, "-" ++ t]
theorem odd_none {ns : List Int} (h : valC ns) (hl : ns.length ≤ 12) : ∀ z ∈ oddT (dataT ns), parseDs z = none ∧ OkT z := by
  obtain ⟨l1, l2⟩ := data_len h hl
  have sg := data_signs h
  generalize dataT ns = t at l1 l2 sg ⊢
  have lt : (TL.tl t).length = t.length := (TL.len_tl t).symm
  have fine : ∀ {a b : Str}, (∀ c ∈ TL.tl a, c < 256) → (∀ c ∈ TL.tl b, c < 256) → a.length ≤ 100 → b.length ≤ 100 → OkT (a ++ b) := fun {a b} ha hb la lb => by
    refine ⟨?_, val_iff.2 (val_app (fun c hc => by have := ha c hc; omega) (fun c hc => by have := hb c hc; omega))⟩
    rw [TL.len_tl, TL.tl_append, List.length_append, ← TL.len_tl, ← TL.len_tl]
    omega
  have st : ∀ c ∈ TL.tl t, c < 256 := fun c hc => by have := sg c hc; omega
  have two : ∀ {a b : Str}, 2 ≤ (TL.tl a).length + (TL.tl b).length → a ++ b ≠ "-" := fun {a b} h2 e => by
    have := congrArg (fun z => (TL.tl z).length) e
    simp only [TL.tl_append, List.length_append, tl_dash] at this
    change _ = 1 at this
    omega
  have e0 : TL.tl ("0" : Str) = [48] := by decide +kernel
  have e3 : TL.tl ("3" : Str) = [51] := by decide +kernel
  intro z hz
  unfold oddT at hz
  simp only [List.mem_cons, List.not_mem_nil, or_false] at hz
  rcases hz with rfl | rfl | rfl | rfl | rfl | rfl | rfl | rfl | rfl
  · refine ⟨bad_last ?_, fine st (by decide +kernel) (by omega) (by decide +kernel)⟩
    rw [TL.tl_append, e0, List.getLast?_append]
    rfl
  · refine ⟨bad_sign (c := 51) ?_ (by omega) (two ?_), fine st (by decide +kernel) (by omega) (by decide +kernel)⟩
    · rw [TL.tl_append, e3]
      exact List.mem_append_right _ List.mem_cons_self
    · rw [e3]
      show 2 ≤ _ + 1
      omega
  · exact ⟨by decide +kernel, by decide +kernel, by decide +kernel⟩
  · exact ⟨by decide +kernel, by decide +kernel, by decide +kernel⟩
  · exact ⟨by decide +kernel, by decide +kernel, by decide +kernel⟩
  · refine ⟨bad_sign (c := 32) ?_ (by omega) (two ?_), fine (by decide +kernel) st (by decide +kernel) (by omega)⟩
    · rw [TL.tl_append, tl_sp]
      exact List.mem_append_left _ List.mem_cons_self
    · rw [tl_sp]
      show 2 ≤ 1 + _
      omega
  · refine ⟨bad_sign (c := 10) ?_ (by omega) (two ?_), fine st (by decide +kernel) (by omega) (by decide +kernel)⟩
    · rw [TL.tl_append, tl_nl]
      exact List.mem_append_right _ List.mem_cons_self
    · rw [tl_nl]
      show 2 ≤ _ + 1
      omega
  · exact ⟨by decide +kernel, by decide +kernel, by decide +kernel⟩
  · refine ⟨bad_sign (c := 45) ?_ (by omega) (two ?_), fine (by decide +kernel) st (by decide +kernel) (by omega)⟩
    · rw [TL.tl_append, tl_dash]
      exact List.mem_append_left _ List.mem_cons_self
    · rw [tl_dash]
      show 2 ≤ 1 + _
      omega
theorem ones_parse : parseDs (strRep "1" 60) = some (List.replicate 60 1) ∧ OkT (strRep "1" 60) := ⟨by decide +kernel, by decide +kernel, by decide +kernel⟩
section
variable {P : Program} {w : World} {K : PySem.W.Frag} {mg : Str → Option Value} {base : Heap}
theorem shaped_ints (ns : List Int) : SeqAt.shaped (.list (ns.map PyData.int)) = true := (shaped_list fun d hd => by
  obtain ⟨n, _, rfl⟩ := List.mem_map.1 hd
  exact ⟨rfl, Nat.zero_le _⟩).1
theorem vals_ok {ns : List Int} (h : valC ns) (hl : ns.length ≤ 12) : valsB (ns.map PyData.int) = true := by
  unfold valsB
  rw [decide_eq_true (by rw [List.length_map]; omega), Bool.true_and]
  refine List.all_eq_true.2 fun d hd => ?_
  obtain ⟨n, hn, rfl⟩ := List.mem_map.1 hd
  have := h n hn
  show (decide (0 ≤ n) && decide (n ≤ 2)) = true
  rw [decide_eq_true this.1, decide_eq_true this.2]
  rfl
theorem mk_runP {K : PySem.W.Frag} {C cB : Addr} {H : Hp} {P : Addr → Hp → Prop} {E : XK} {vs : List V} {ds : List PyData} (hd : DpAll K H vs ds) (hl : vs.length ≤ 900) (k0 : valsB ds = false → raisesD K cB (.tuple ds) H E) (k1 : valsB ds = true → ∀ G x, Same H G → DatAt K C G x (trimZ (ds.map intOf)) → P x G) :
    ∀ x dx, H x = none → H dx = none → dx ≠ x → spDR K C cB (.ref x :: vs) (upd (upd H dx (.own x)) x (.ins C dx [])) (fun v H2 => v = .non ∧ P x H2) E :=
  mk_run (Q := fun v H2 => match v with
    | .ref a => P a H2
    | _ => True) hd hl k0 k1
def SameD (K : PySem.W.Frag) (CD : Addr) : Addr → Addr → Hp → Prop := fun u v H => ∃ ns, DatAt K CD H u ns ∧ DatAt K CD H v ns
theorem dat_ext {CD : Addr} : ∀ a b H H', Ext H H' → SameD K CD a b H → SameD K CD a b H' := fun _ _ _ _ e ⟨ns, h1, h2⟩ => ⟨ns, datAt_same e h1, datAt_same e h2⟩
theorem dat_eq {CD : Addr} : ∀ a b H Q E, SameD K CD a b H → (∀ H', Ext H H' → Q (.bl true) H') → spEqD K CD [.ref a, .ref b] H Q E := fun a b H Q E ⟨ns, h1, h2⟩ q => ⟨a, .ref b, ns, rfl, h1, .inl ⟨b, ns, rfl, h2, by
  rw [decide_eq_true rfl]
  exact q H Ext.rfl'⟩⟩
def spDataR (K : PySem.W.Frag) : Sp := fun vs H Q _ => ∃ (p0 : V) (a : Addr) (ns : List Int), vs = [p0, .ref a] ∧ H a = some (.lst (ns.map V.int)) ∧ valC ns ∧ ns.length ≤ 12 ∧ ∀ G, Same H G → Q (.bl true) G
theorem scDataR : FnScope ["pool", "some", "text", "one", "other"] ["pool", "some"] (defScope sDataR) := ⟨rfl, rfl, rfl, by decide +kernel, rfl, by decide +kernel, by decide +kernel⟩
theorem c_dataR {CP CD cB cN fD gO pO : Addr} {mcO : Value} {gdO : FuncData} (D : Def K mg "_law_data_right" sDataR ["pool", "some"]) (T : Bl4 mg) (n_str : mg "str" = none) (n_repr : mg "repr" = none) (cH : FnD P w K mg base CX0 9 "_law_heard" ["way", "thing"] (spHeard K CP CD))
    (gD : mg "Data" = some (.ref CD)) (mkD : Mk K CD fD) (FD : FnR P w K mg base (L2.CX P w) 4 fD (spDR K CD cB)) (cr : ClX.CRead K CD mcO) (sm' : SMet K CD mcO "of" pO gO) (FO : FnOk P w K mg base (L2.CX P w) 6 gO gdO ["values"] (spOf K CD cB)) (bO : Binds K gdO ["values"] [])
    (mE : MtC P w K mg base CX0 1 CD "__eq__" ["self", "other"] (spEqD K CD)) (mM : MtC P w K mg base (L2.CX P w) 6 CD "__mul__" ["self", "other"] (spMulD K CD cB cN)) (oM : OpAll K CD .Mult) : FnD P w K mg base CX0 10 "_law_data_right" ["pool", "some"] (spDataR K) := by
  refine D.okG scDataR (fun vs H Q E h => ?_) (fun f' cdv A outer s H vs Q E hgu hr h => ?_)
  · obtain ⟨p0, a, ns, rfl, _⟩ := h
    rfl
  · obtain ⟨p0, a, ns, rfl, ha, hv, hl, k⟩ := h
    have sc := scDataR
    have hr9 : Room 9 _ := hr.mono (by decide)
    have hr6 : Room 6 _ := hr.mono (by decide)
    have hr5 : Room 5 _ := hr.mono (by decide)
    have hr2 : Room 2 _ := hr.mono (by decide)
    have hr1 : Room 1 _ := hr.mono (by decide)
    have hu80 : (A.deeper (envOfC "_law_data_right" (defScope sDataR) s.heap.objs.size f' cdv)).units + 80 < cLine := by have := hr.un; omega
    refine ⟨_, (pss_cut (ps_while (passes_of rfl) (PW.pt (pw_and (pt_cmpR (op_neD hr.units) (pv 1) (pe_lst pa_nil) (nomark _)) (pw_and1 (pt_cmpR op_eq (pe_ix ix_list (pv 1) (pe_un un_neg pe_int) (fun _ _ => rfl)) pe_int (nomark _))))) (pss_one (ps_set (i := 1) sc.nd rfl (Or.inl rfl) (pe_slice sl_list (pv 1) po_none (po_some (pe_un un_neg pe_int))))))
      (pss_cut (ps_set (i := 2) sc.nd rfl (Or.inl rfl) (pe_ifExp (pt_cmpR (op_neD hr.units) (pv 1) (pe_lst pa_nil) (nomark _)) (pe_join pe_str (pe_lc (own := [("one", 3)]) (g := gName 3) (tt := tYes) rfl sc.nd (pi_list (pv 1)) (blkOk_by (N := ["pool", "some", "text", "one", "other"]) (sc := defScope sDataR) (by decide +kernel)) (fun _ _ _ _ _ => (pg_name (i := 3) sc.nd rfl (Or.inl rfl))) (fun _ _ _ _ _ => pts_nil) (fun _ _ _ _ _ => (pe_callTy call_str_int (by rfl) n_str (by decide +kernel) (pa_cons (pv 3) pa_nil))))) pe_str))
      (pss_cut (ps_if (PW.pt (pw_or (pt_cmpR (op_neOwn mon_flat eqG_flat hr1) (pe_d cH hgu hr9 pass0 rfl (pa_cons pe_int (pa_cons (pe_smeth (E := fun _ => E0) (pe_glob (v := .ref CD) (by rfl) gD (by rfl)) cr sm' FO bO hr6 (fun σ => passLAt σ) (pa_cons (pv 1) pa_nil)) pa_nil))) (pe_lst (pa_cons pe_str (pa_cons (pv 2) pa_nil))) (nomark _)) (pw_or1 (pt_cmpR (op_neTwo mE (R := SameD K CD) dat_ext dat_eq hr2) (pe_d cH hgu hr9 pass0 rfl (pa_cons pe_int (pa_cons (pv 2) pa_nil))) (pe_lst (pa_cons pe_str (pa_cons (pe_smeth (E := fun _ => E0) (pe_glob (v := .ref CD) (by rfl) gD (by rfl)) cr sm' FO bO hr6 (fun σ => passLAt σ) (pa_cons (pv 1) pa_nil)) pa_nil))) (nomark _))))) (pss_one (ps_ret pe_bl)) pss_nil)
      (pss_cut (ps_for (passes_of rfl) rfl (pi_list (pe_lst (pa_cons (pe_op op_add_str (pv 2) pe_str) (pa_cons (pe_op op_add_str (pv 2) pe_str) (pa_cons pe_str (pa_cons pe_str (pa_cons pe_str (pa_cons (pe_op op_add_str pe_str (pv 2)) (pa_cons (pe_op op_add_str (pv 2) pe_str) (pa_cons (pe_op op_mulS pe_str pe_int) (pa_cons (pe_op op_add_str pe_str (pv 2)) pa_nil))))))))))) (pg_name (i := 4) sc.nd rfl (Or.inl rfl))
        (pss_one (ps_if (pt_cmpR (op_neOwn mon_flat eqG_flat hr1) (pe_d cH hgu hr9 pass0 rfl (pa_cons pe_int (pa_cons (pv 4) pa_nil))) (pe_lst (pa_cons pe_str (pa_cons (pe_callB (call_reprEK K rfl hgu hu80) (by rfl) n_repr (by decide +kernel) (pa_cons (pv 4) pa_nil)) pa_nil))) (nomark _)) (pss_one (ps_ret pe_bl)) pss_nil)))
      (pss_one (ps_ret (pe_cmpR (op_eqTwo mE (R := SameD K CD) dat_ext dat_eq hr2) (pe_d cH hgu hr9 pass0 rfl (pa_cons pe_int (pa_cons (pe_op op_mulS pe_str pe_int) pa_nil))) (pe_lst (pa_cons pe_str (pa_cons (pe_opI (op := .Mult) (E := fun _ => E0) mM oM.own hr6 (fun σ => passLAt σ) (pe_makeRS (D := fun _ => E0) mkD FD hr5 (fun σ => passLAt σ) rfl gD (pa_cons pe_int pa_nil)) pe_int) pa_nil))) (nomark _)))))))), ?_⟩
    have hz := sizeLine_eq
    refine cut_hide (fun τ G => ∃ b ms, τ = [some p0, some (.ref b), none, none, none] ∧ Same H G ∧ G b = some (.lst (ms.map V.int)) ∧ valC ms ∧ ms.length ≤ 12 ∧ trimZ ms = ms) (fun M' hM => ?_) ?_
    · refine ⟨fun m' τ G => ∃ b ms, ms.length = m' ∧ τ = [some p0, some (.ref b), none, none, none] ∧ Same H G ∧ G b = some (.lst (ms.map V.int)) ∧ valC ms ∧ ms.length ≤ 12, ⟨_, a, ns, rfl, rfl, Same.refl H, ha, hv, hl⟩, ?_⟩
      rintro m' τ G ⟨b, ms, rfl, rfl, s1, hb, hv2, hl2⟩
      walk_at "wp"
      refine ⟨Nat.zero_le _, fun p np => ?_⟩
      have sp := same_new (o := .lst []) np
      refine ⟨_, .lst (SqL.of (sp _ _ hb)) (dps_intD ms), _, .lst (SqL.of upd_same) .nil, shaped_ints ms, by decide, ?_⟩
      by_cases c : ms = []
      · subst c
        exact Eq.mpr (if_neg (by decide +kernel)) (hM _ _ ⟨b, [], rfl, s1.trans sp, sp _ _ hb, hv2, hl2, rfl⟩)
      · have ne : (!(PyData.list (ms.map PyData.int)).eqv (.list [])) = true := by
          obtain ⟨x, r, rfl⟩ := List.exists_cons_of_ne_nil c
          rfl
        have ca : ms.map V.int ≠ [] := fun e => c (List.map_eq_nil_iff.1 e)
        refine Eq.mpr (if_pos ne) ⟨_, SqL.of (sp _ _ hb), _, last_atG ca, ?_⟩
        have hlast : (ms.map V.int).getLast ca = .int (ms.getLast c) := List.getLast_map ..
        rw [hlast]
        refine ⟨rfl, ite2 (fun c2 => ?_) fun c2 => ?_⟩
        · refine ⟨fun τ G3 => ∃ p1, τ = [some p0, some (.ref p1), none, none, none] ∧ Same H G3 ∧ G3 p1 = some (.lst (ms.dropLast.map V.int)), fun σ' H' ⟨p1, e1, e2, e3⟩ => ⟨ms.dropLast.length, ?_, p1, ms.dropLast, rfl, e1, e2, e3, fun n hn => hv2 n (List.dropLast_subset _ hn), by rw [List.length_dropLast]; omega⟩, _, SqL.of (sp _ _ hb), fun p1 np1 => ⟨p1, rfl, (s1.trans sp).trans (same_new np1), ?_⟩⟩
          · have := List.length_pos_iff.2 c
            rw [List.length_dropLast]
            omega
          · rw [upd_same, cut_init, List.map_dropLast]
        · refine hM _ _ ⟨b, ms, rfl, s1.trans sp, sp _ _ hb, hv2, hl2, ?_⟩
          have es : ms = ms.dropLast ++ [ms.getLast c] := (List.dropLast_concat_getLast c).symm
          have hne : ms.getLast c ≠ 0 := fun e => c2 (by rw [e])
          generalize ms.getLast c = y at es hne
          rw [es]
          exact trimZ_keep hne
    rintro τ G ⟨b, ms, rfl, s1, hb, hv2, hl2, ht⟩
    have hp := data_parse hv2 hl2 ht
    have ho := odd_none hv2 hl2
    obtain ⟨d1, d2⟩ := data_len hv2 hl2
    have dsg := data_signs hv2
    refine cut_hide (fun τ G1 => τ = [some p0, some (.ref b), some (.str (dataT ms)), none, none] ∧ Same G G1) (fun M' hM => ?_) ?_
    · walk_at "wp"
      refine ⟨Nat.zero_le _, fun p np => ?_⟩
      have sp := same_new (o := .lst []) np
      refine ⟨_, .lst (SqL.of (sp _ _ hb)) (dps_intD ms), _, .lst (SqL.of upd_same) .nil, shaped_ints ms, by decide, ?_⟩
      have hb' := sp _ _ hb
      generalize upd G p (.lst []) = A at sp hb' ⊢
      by_cases c : ms = []
      · subst c
        exact Eq.mpr (if_neg (by decide +kernel)) (hM _ _ ⟨rfl, sp⟩)
      · have ne : (!(PyData.list (ms.map PyData.int)).eqv (.list [])) = true := by
          obtain ⟨x, r, rfl⟩ := List.exists_cons_of_ne_nil c
          rfl
        refine Eq.mpr (if_pos ne) ⟨⟨_, rfl⟩, ⟨_, SqL.of hb'⟩, ?_⟩
        refine lcw_it (walk_list (xs := ms.map V.int)) (fun D i F => Same A F ∧ A D = none ∧ F D = some (.lst (((ms.take i).map fun n => Str.ofString (toString n)).map V.str))) (fun D hD => ⟨same_new hD, hD, upd_same⟩) (fun D i F _ h => SqL.of (h.1 _ _ hb')) ?_ ?_
        · rintro D i v F1 F2 hD hi ⟨sF, nD, hF⟩ ⟨rfl, hv'⟩
          rw [List.getElem?_map] at hv'
          obtain ⟨n, hn, rfl⟩ := Option.map_eq_some_iff.1 hv'
          have hn2 := hv2 n (List.mem_of_getElem? hn)
          have li := (List.getElem?_eq_some_iff.1 hn).1
          walk_at "wp"
          refine ⟨?_, _, hF, by rw [List.length_map, List.length_map, List.length_take]; omega, same_mut sF nD, nD, ?_⟩
          · exact Nat.lt_of_le_of_lt (Nat.log2_le_self _) (by omega)
          · rw [upd_same, List.take_add_one, hn]
            simp
        · rintro D F hD ⟨sF, nD, hF⟩
          rw [List.length_map, List.take_length] at hF
          refine ⟨D, rfl, _, .inl (SqL.of hF), ?_, ?_⟩
          · have := sum_le' (f := fun z : Str => z.length) (b := 4) (l := ms.map fun n => Str.ofString (toString n)) fun z hz' => by
              obtain ⟨n, hn, rfl⟩ := List.mem_map.1 hz'
              obtain ⟨h0, h2⟩ := hv2 n hn
              obtain ⟨m, rfl⟩ := Int.eq_ofNat_of_zero_le h0
              exact intT_len (by omega)
            rw [List.length_map] at this ⊢
            show _ + _ * 0 ≤ _
            omega
          · have e : dataT ms = Txt.join "" (ms.map fun n => Str.ofString (toString n)) := by
              unfold dataT
              rw [if_pos (List.length_pos_iff.2 c)]
            rw [← e]
            exact hM _ _ ⟨rfl, sp.trans sF⟩
    rintro τ G1 ⟨rfl, s2⟩
    refine cut_hide (fun τ G2 => τ = [some p0, some (.ref b), some (.str (dataT ms)), none, none] ∧ Same G1 G2) (fun M' hM => ?_) ?_
    · walk_at "wp"
      have vk := vals_ok hv2 hl2
      have mkq : ∀ {A : Hp} {R : VK}, Same G1 A → (∀ F x, Same A F → DatAt K CD F x ms → R (.ref x) F) → spOf K CD cB [V.ref b] A R E0 := fun {A R} sA q => by
        refine ⟨_, _, rfl, .inl (.lst (SqL.of ((s2.trans sA) _ _ hb)) (dps_intD ms)), (fun z => by cases z), fun ds hi => ?_⟩
        cases hi
        refine ⟨by rw [List.length_map]; omega, (fun z => by rw [vk] at z; cases z), fun _ F x sF hx => ?_⟩
        rw [map_intOf, ht] at hx
        exact q F x sF hx
      refine mkq (Same.refl _) fun F1 x1 f1 hx1 => ?_
      refine ⟨2, _, rfl, .inl ⟨x1, ms, rfl, hx1, hv2, by omega, fun q F2 f2 nq _ hq => ⟨by omega, fun p np => ?_⟩⟩⟩
      have sp := same_new (o := .lst [V.str "told", V.str (dataT ms)]) np
      refine ⟨two_strs (sp _ _ hq) upd_same, fun F3 f3 => ?_⟩
      refine ⟨3, _, rfl, .inr ⟨_, rfl, ⟨by omega, val_iff.2 fun c hc => by have := dsg c hc; omega⟩, (fun e => by rw [hp] at e; cases e), fun ns' e x3 q3 F4 f4 nq3 hx3 hq3 => ?_⟩⟩
      have en : ns' = ms := Option.some.inj (e.symm.trans hp)
      subst en
      refine mkq ((((f1.trans f2).trans sp).trans f3).trans f4) fun F5 x5 f5 hx5 => ⟨by omega, fun p5 np5 => ?_⟩
      have sp5 := same_new (o := .lst [V.str "told", V.ref x5]) np5
      obtain ⟨d3, t3, q3i, _⟩ := id (datAt_same (f5.trans sp5) hx3)
      obtain ⟨d5, t5, q5i, _⟩ := id (datAt_same sp5 hx5)
      exact ⟨⟨_, _, _, _, _, _, _, _, _, rfl, rfl, (f5.trans sp5) _ _ hq3, upd_same, q3i, q5i, _, datAt_same (f5.trans sp5) hx3, datAt_same sp5 hx5⟩, fun F6 f6 => hM _ _ ⟨rfl, ((((((f1.trans f2).trans sp).trans f3).trans f4).trans f5).trans sp5).trans f6⟩⟩
    rintro τ G2 ⟨rfl, s3⟩
    refine cut_hide (fun τ G3 => ∃ u, τ = [some p0, some (.ref b), some (.str (dataT ms)), none, u] ∧ Same G2 G3) (fun M' hM => ?_) ?_
    · walk_at "wp"
      have l1 : ∀ z : Str, z.length = 1 → (dataT ms).length + z.length ≤ sizeLine ∧ z.length + (dataT ms).length ≤ sizeLine := fun z e => by omega
      refine ⟨(l1 "0" rfl).1, (l1 "3" rfl).1, (l1 " " rfl).2, (l1 "\n" rfl).1, by decide, by decide, by decide, (l1 "-" rfl).2, by omega, fun p np => ?_⟩
      have sp := same_new (o := .lst ((oddT (dataT ms)).map V.str)) np
      have hp' : (upd G2 p (.lst ((oddT (dataT ms)).map V.str))) p = some (.lst ((oddT (dataT ms)).map V.str)) := upd_same
      show (∃ xs, SqL K (upd G2 p (.lst ((oddT (dataT ms)).map V.str))) p xs) ∧ LoopW (Itl K p) (gName 4) _ { nx := M', rt := Q } _ (upd G2 p (.lst ((oddT (dataT ms)).map V.str)))
      generalize upd G2 p (.lst ((oddT (dataT ms)).map V.str)) = A at sp hp' ⊢
      refine ⟨⟨_, SqL.of hp'⟩, ?_⟩
      refine loop_it (walk_list (xs := (oddT (dataT ms)).map V.str)) (fun i τ F => ∃ u, τ = [some p0, some (.ref b), some (.str (dataT ms)), none, u] ∧ Same A F) ⟨_, rfl, Same.refl _⟩ (fun i τ F _ h => by obtain ⟨u, _, h⟩ := h; exact SqL.of (h _ _ hp')) ?_ ?_
      · rintro i v τ F1 F2 hi ⟨u, rfl, sF⟩ ⟨rfl, hv'⟩
        rw [List.getElem?_map] at hv'
        obtain ⟨z, hz1, rfl⟩ := Option.map_eq_some_iff.1 hv'
        obtain ⟨zn, zo⟩ := ho z (List.mem_of_getElem? hz1)
        walk_at "wp"
        refine ⟨3, _, rfl, .inr ⟨z, rfl, zo, fun _ q F3 f3 nq _ hq => ?_, fun ns' e => by rw [zn] at e; cases e⟩⟩
        refine ⟨.str z, .inl (.str z), rp_text zo, by omega, fun p3 np3 => ?_⟩
        have sp3 := same_new (o := .lst [V.str "text", V.str (PyData.str z).shown]) np3
        exact ⟨two_strs (sp3 _ _ hq) upd_same, fun F4 f4 => ⟨⟨_, rfl⟩, ((sF.trans f3).trans sp3).trans f4⟩⟩
      · rintro τ F ⟨u, rfl, sF⟩
        exact hM _ _ ⟨u, rfl, sp.trans sF⟩
    rintro τ G3 ⟨u, rfl, s4⟩
    walk_at "wp"
    refine ⟨by decide, by decide, by decide, ?_⟩
    refine ⟨3, _, rfl, .inr ⟨_, rfl, ones_parse.2, (fun e => by rw [ones_parse.1] at e; cases e), fun ns' e x1 q1 F1 f1 nq hx1 hq1 => ?_⟩⟩
    have en : ns' = List.replicate 60 1 := Option.some.inj (e.symm.trans ones_parse.1)
    subst en
    refine mk_runP (ds := [.int 1]) (.cons (.int 1) .nil) (by decide) (fun z => by cases z) fun _ F2 z2 f2 hz2 => ?_
    obtain ⟨dz, tz, hzi, _⟩ := id hz2
    have hv1 : valI (trimZ ([PyData.int 1].map intOf)) := by unfold valI; decide
    refine ⟨⟨_, _, hzi⟩, ⟨_, ty_dp (.int 60), oM.of _⟩, z2, _, .int 60, .int 60, rfl, hz2, hv1, .int 60, (fun z => by cases z), fun _ => ⟨fun z => absurd (by decide) z, fun _ F3 y f3 hy => ⟨by omega, fun p5 np5 => ?_⟩⟩⟩
    have sp5 := same_new (o := .lst [V.str "told", V.ref y]) np5
    have hy2 : DatAt K CD F3 y (List.replicate 60 1) := hy
    obtain ⟨d3, t3, q3i, _⟩ := id (datAt_same ((f2.trans f3).trans sp5) hx1)
    obtain ⟨d5, t5, q5i, _⟩ := id (datAt_same sp5 hy2)
    exact ⟨⟨_, _, _, _, _, _, _, _, _, rfl, rfl, ((f2.trans f3).trans sp5) _ _ hq1, upd_same, q3i, q5i, _, datAt_same ((f2.trans f3).trans sp5) hx1, datAt_same sp5 hy2⟩, fun F6 f6 => k _ ((((((((s1.trans s2).trans s3).trans s4).trans f1).trans f2).trans f3).trans sp5).trans f6)⟩
end

end YY

set_option maxRecDepth 100000
set_option maxHeartbeats 4000000
namespace YY
open PySem PySem.Spec PyProof.Rows L2 XX
local macro_rules | `(tactic| walk_at "wp") => `(tactic| simp only [Int.zero_add, L2.start, LcEnd, List.append_nil, List.cons.injEq, List.cons_append, List.getElem?_cons_succ, List.getElem?_cons_zero, List.length_cons, List.length_nil, List.map_cons, List.map_nil, List.nil_append, List.replicate, List.replicate_succ, List.replicate_zero, List.set_cons_succ, List.set_cons_zero, Nat.reduceAdd, Nat.reduceSub, Option.some.injEq, StX.tMakeR, StX.tStar, V.bl.injEq, V.int.injEq, V.ref.injEq, V.str.injEq, V.ty.injEq, WE, and_assoc, and_false, and_true, bool_ite_false, bool_ite_true, cxOf_K, cxOf_noxK, dec_ite, decide_eq_true_eq, exists_and_left, exists_and_right, exists_const, exists_eq_left, exists_eq_left', false_and, false_or, gCons, gName, gNil, gSub, gTup, iEnumA, iItems, iKeys, iList, iRng1, iRng2, iStr, iTup, iZipB, ite_false, ite_true, ndec_ite, or_false, rAppend, rCat, rCatT, rEq, rEqI, rEqK, rEqV, rExt2, rI, rI0, rIn, rInRg, rIndex, rIsD, rIsE, rIsE2, rIxD, rIxL, rIxS, rIxT, rLenI, rLenK, rListStr, rMax, rMaxDef, rSetIM, rEqT, sFldAug, rAdd, rMin, rMulS, rNe, rNeDA, rNeV, rRange1, rRep, rRepA, rReprE, rReprI, rSetD, rSetI, rSetL, rSlL, rSlT, rSortedSet, rU, reduceCtorEq, reduceIte, sFld, tAnd, tAndV, tAsg, tAug, tB, tBM, tBM0, tC, tCB, tCKw, tDGetT, tCall, tCallS, tChain, tCons, tDGet, tDIn, tDNewK, tDNotIn, tDcT_eq, tDc_eq, tDisp, tDrop, tErr, tFld, tFor_eq, tIf, tIfS, tIxI, tLc2_eq, tLc_eq, tLenSetS, tLock, tLockE, tLst, tLstRg, tM1, tMakeRS, tMakeS, tMakeV, tMakeVS, tMeth, tMethX, tMkO, tMulA, tMulD, tNext, tNil, tNoPart, tNot, tNotV, tOp, tOpI, tOpR, tOr, tOrV, tOst, tPairs, tPar, tPar3, tPart, tRet, tRetN, tRevT, tRg2, tSMeth, tSeq, tSl, tTest, tTup, tUn, tVar, tVeI, tXf, tYes, true_and, wAs, wMA, wipe, rTupOf, rNeD])
/-! ### the law -/
abbrev sValues : Stmt := topS 54
abbrev sLaw23 : Stmt := topS 62
mutual
def noL : PyData → Bool
  | .list _ => false
  | .tuple ds => noLs ds
  | .dict _ => false
  | _ => true
def noLs : List PyData → Bool
  | [] => true
  | d :: ds => noL d && noLs ds
end
mutual
theorem dp_noL {K : PySem.W.Frag} {H G : Hp} (e1 : ∀ a xs, SqT K H a xs → SqT K G a xs) : ∀ (d : PyData) (v : V), noL d = true → Dp K H v d → Dp K G v d
  | .none, _, _, h => by
    cases h
    exact .non
  | .bool b, _, _, h => by
    cases h
    exact .bl b
  | .int i, _, _, h => by
    cases h
    exact .int i
  | .str x, _, _, h => by
    cases h
    exact .str x
  | .list ds, _, n, h => nomatch n
  | .tuple ds, _, n, h => by
    cases h with
    | tup hs ha => exact .tup (e1 _ _ hs) (dps_noL e1 ds _ n ha)
  | .dict _, _, _, h => nomatch h
theorem dps_noL {K : PySem.W.Frag} {H G : Hp} (e1 : ∀ a xs, SqT K H a xs → SqT K G a xs) : ∀ (ds : List PyData) (vs : List V), noLs ds = true → DpAll K H vs ds → DpAll K G vs ds
  | [], _, _, h => by
    cases h
    exact .nil
  | d :: ds, _, n, h => by
    rw [noLs, Bool.and_eq_true] at n
    cases h with
    | cons h1 h2 => exact .cons (dp_noL e1 d _ n.1 h1) (dps_noL e1 ds _ n.2 h2)
end
theorem part_noL {rs : List Str} {size en : Int} {p : PyData} {n : Str} (h : partB rs size en p n = true) : noL p = true := by
  have bt : ∀ lo hi : Int, btw p lo hi = true → noL p = true := fun lo hi e => by
    cases p with
    | int i => rfl
    | _ => cases e
  unfold partB at h
  split at h
  · cases p with
    | str z => rfl
    | _ => cases h
  · split at h
    · exact bt _ _ h
    · split at h
      · exact bt _ _ h
      · split at h
        · cases p with
          | none => rfl
          | int i => rfl
          | _ => cases h
        · obtain ⟨z, rfl⟩ := wordB_str h
          rfl
theorem parts_noL {rs : List Str} {size en : Int} : ∀ {ps : List PyData} {ns : List Str}, partsB rs size en ps ns = true → noLs ps = true
  | [], [], _ => rfl
  | [], _ :: _, h => nomatch h
  | _ :: _, [], h => nomatch h
  | p :: ps, n :: ns, h => by
    rw [partsB, Bool.and_eq_true] at h
    rw [noLs, part_noL h.1, parts_noL h.2]
    rfl
theorem rowB_noL {rs : List Str} {size en : Int} {d : PyData} (h : rowB rs size en d = true) : noL d = true := by
  obtain ⟨k, ps, rfl⟩ := rowB_str h
  have h : (match formOf k with
    | some ns => partsB rs size en ps ns
    | none => false) = true := h
  cases hz : formOf k with
  | none =>
    rw [hz] at h
    cases h
  | some ns =>
    rw [hz] at h
    have h : partsB rs size en ps ns = true := h
    show (noL (.str k) && noLs ps) = true
    rw [parts_noL h]
    rfl
theorem noLs_of {ds : List PyData} (h : ∀ d ∈ ds, noL d = true) : noLs ds = true := by
  induction ds with
  | nil => rfl
  | cons d ds ih =>
    rw [noLs, h d (List.mem_cons_self ..), ih fun e he => h e (List.mem_cons_of_mem _ he)]
    rfl
theorem PrD.Ok.noL {g : PrD} (h : g.Ok) : YY.noL (.tuple g.ds) = true := noLs_of fun d hd => rowB_noL (h.rows d hd)
theorem Pool.off {H : Hp} {p b : Addr} {o : HO} (P : Pool H p) (h : H b = some o) (n : ∀ l i, o ≠ .lst [.ref l, .int i]) : b ≠ p := fun z => by
  obtain ⟨l, i, ns, q, _⟩ := P
  rw [z, q] at h
  cases h
  exact n _ _ rfl
theorem ChAt.gr {K : PySem.W.Frag} {H G : Hp} {ch p : Addr} {s : Nat} {ws : List Str} (P : Pool H p) (e : Gr p H G) (h : ChAt K H ch s ws) : ChAt K G ch s ws := by
  obtain ⟨kvs, h1, h2⟩ := h
  refine ⟨kvs, e.keep _ _ (P.off h1 fun _ _ z => nomatch z) h1, fun q z hz => ?_⟩
  obtain ⟨l, ds, a1, a2, a3, a4⟩ := h2 q z hz
  refine ⟨l, ds, a1, e.keep _ _ (P.off a2 fun l i z => ?_) a2, a3, fun v d hd => ?_⟩
  · injection z with z
    match ds, z with
    | [], z => cases z
    | [_], z => cases z
    | _ :: _ :: _, z => cases z
  · obtain ⟨kt, b1, b2⟩ := a4 v d hd
    refine ⟨kt, e.keep _ _ (P.off b1 fun _ _ z => nomatch z) b1, fun c hc => ?_⟩
    obtain ⟨b, b3, b4⟩ := b2 c hc
    exact ⟨b, b3, e.tup P b4⟩
theorem ProgAt.gr {K : PySem.W.Frag} {C : Addr} {H G : Hp} {x p : Addr} {g : PrD} (ok : g.Ok) (P : Pool H p) (e : Gr p H G) (h : ProgAt K C H x g) : ProgAt K C G x g := by
  obtain ⟨dx, wr, t, plA, chA, h1, h2, h3, h4, h5⟩ := h
  refine ⟨dx, wr, t, plA, chA, e.keep _ _ ?_ h1, e.tup P h2, dp_noL (fun _ _ q => e.tup P q) _ _ ok.noL h3, e.keep _ _ (P.off h4 fun _ _ z => nomatch z) h4, h5.gr P e⟩
  intro z
  obtain ⟨l, i, ns, q, _⟩ := P
  rw [z, q] at h1
  cases h1
theorem same_gr {p : Addr} {H G F : Hp} (n : H p = none) (s : Same H G) (g : Gr p G F) : Same H F := fun b o h => g.keep b o (fun z => by
  rw [z, n] at h
  cases h) (s b o h)
def valsOk (s : Int) (ns : List Int) : Prop := ∀ n ∈ ns, 0 ≤ n ∧ n < s
theorem rows_rp {pl : PlanD} {top : Int} (ok : pl.Ok top) (ht : top ≤ 24) : Rp (.tuple (prD pl).ds) := by
  have okp := plan_ok ok ht
  exact (Sml.tup (fun d hd => okp.sml d hd) okp.most (by decide)).rp (by decide) (by decide)
theorem rp_by {d : PyData} (h : (d.showable && (decide (d.depth ≤ 64) && decide (d.shown.length ≤ 1000))) = true) : Rp d := by
  rw [Bool.and_eq_true, Bool.and_eq_true, decide_eq_true_eq, decide_eq_true_eq] at h
  exact ⟨h.1, h.2.1, by rw [sizeLine_eq]; omega⟩
theorem noI_dp {K : PySem.W.Frag} {C : Addr} {H : Hp} {v : V} {d : PyData} (n : NoD K C) (h : Dp K H v d) : NoProg K C H v := ⟨_, ty_dp h, n.of d⟩
theorem odd_p0 : parseG "" = none := by decide +kernel
theorem odd_p1 : parseG "\n" = none := by decide +kernel
theorem odd_p2 : parseG "values 2\n" = none := by decide +kernel
theorem odd_p3 : parseG "values 2\nregisters x\n" = none := by decide +kernel
def SameP (K : PySem.W.Frag) (CP : Addr) : Addr → Addr → Hp → Prop := fun u v H => ∃ g, ProgAt K CP H u g ∧ ProgAt K CP H v g ∧ g.Ok
theorem prog_ext {K : PySem.W.Frag} {CP : Addr} : ∀ a b H H', Ext H H' → SameP K CP a b H → SameP K CP a b H' := fun _ _ _ _ e ⟨g, h1, h2, ok⟩ => ⟨g, h1.same e, h2.same e, ok⟩
theorem prog_eq {K : PySem.W.Frag} {CP : Addr} : ∀ a b H Q E, SameP K CP a b H → (∀ H', Ext H H' → Q (.bl true) H') → spEqP K CP [.ref a, .ref b] H Q E := fun a b H Q E ⟨g, h1, h2, ok⟩ q => ⟨a, .ref b, g, rfl, h1, ok, .inl ⟨b, g, rfl, h2, ok, by
  rw [prEq_self ok]
  exact q H Ext.rfl'⟩⟩
section
variable {P : Program} {w : World} {K : PySem.W.Frag} {mg : Str → Option Value} {base : Heap}
theorem fun_okG {f : Addr} {fd : FuncData} {CX : CXT} {x : Str} {st : Stmt} {N ps : List Str} {k : Nat} {sp : Sp} (F : L2.Fun K x x st f fd) (S : FnScope N ps (defScope st)) (len : ∀ vs H Q E, sp vs H Q E → vs.length = ps.length)
    (hbody : ∀ (cdv : Value) (A : Around) (outer : List Env) (s : Shared) (H : Hp) (vs : List V) (Q : VK) (E : XK), (A.deeper (envOfC x (defScope st) s.heap.objs.size f cdv)).guards = some [] → Room k (A.deeper (envOfC x (defScope st) s.heap.objs.size f cdv)) → sp vs H Q E →
      ∃ t, PSs (cxOf CX P w K mg base N x (defScope st) f cdv A outer s H E) (defBody st) t ∧ t { nx := fun _ H' => Q .non H', rt := Q } (L2.start N vs) H) : FnG P w K mg base CX (k + 1) f fd ps sp := by
  refine ⟨len, fun A outer s H args us vs Q E hg hr e0 hbd r hsp => ?_⟩
  obtain ⟨oc, od, kV, doc, pm, an, cdv, ct, osl, rfl, lk, hcd⟩ := F.ex
  have len0 := len _ _ _ _ hsp
  have hin : K.In s.heap := e0.mod.kin.keeps fun b o q => (e0.bs b o q).1
  have hnl : s.heap.NoLimit := e0.mod.nolimit.keeps fun b o q => (e0.bs b o q).1
  have knd : ∀ y ∈ ps.zip us, (defScope st).names.lookup y.1 = some .local ∨ ((defScope st).names.lookup y.1 = some .cell ∧ ((cellsFrom (s.heap.objs.size + 1) (defScope st).names []).lookup y.1).isSome = true) := by
    rintro ⟨n, v⟩ hy
    exact (S.par n (List.of_mem_zip hy).1).imp id fun q => ⟨q, PySem.W.cellsFrom_some _ _ _ (.inl q)⟩
  refine codeAny_call_function hr.depth (hin _ _ lk) rfl S.co S.gen rfl (PySem.W.codeRec_of hin hcd) (hbd _ _ _ _ (wpAny_newFunctionEnv_cells S.kind knd fun env he s1 x1 => ?_))
  subst he
  refine ⟨hnl.keeps x1.toInCall.keep, codeAny_func ?_⟩
  obtain ⟨t, ht, hq⟩ := hbody cdv A outer s H vs Q E (guards_deeper hg) (hr.deeper _) hsp
  have fin : ∀ {s' : Shared} {τ : L2.St} {H' : Hp} {v : V} {u : Value}, Inv (cxOf CX P w K mg base N x (defScope st) f cdv A outer s H E) [] τ H' s' → RelV v u → Q v H' → CE outer P w H s Q u s' :=
    fun J rv q => ⟨_, _, J.os, J.bare, J.base, J.hok, rv, q⟩
  refine wpAny_mono (ht.run [] s1 (L2.start N vs) H _ (inv_start S hr.hd e0 len0 r x1) hq) (fun fl s' hs => ?_) fun e s' hs => hs
  match fl, hs with
  | .ret u, ⟨v, τ, H', J, rv, q⟩ => exact fin J rv q
  | .next, ⟨τ, H', J, q⟩ => exact fin (v := V.non) (u := Value.none) J rfl q
  | .brk, ⟨_, _, _, q⟩ => exact q.elim
  | .cont, ⟨_, _, _, q⟩ => exact q.elim
def spLValues (K : PySem.W.Frag) : Sp := fun vs H Q _ => ∃ (p : Addr) (size top : Int), vs = [.ref p, .int size, .int top] ∧ Pool H p ∧ 0 < size ∧ 0 ≤ top ∧ top ≤ 100 ∧ ∀ D (ns : List Int) G, Gr p H G → H D = none → D ≠ p → G D = some (.lst (ns.map V.int)) → valsOk size ns → (ns.length : Int) ≤ top → Q (.ref D) G
theorem scLValues : FnScope ["pool", "size", "top", "turn"] ["pool", "size", "top"] (defScope sValues) := ⟨rfl, rfl, rfl, by decide +kernel, rfl, by decide +kernel, by decide +kernel⟩
theorem c_lValues (D : Def K mg "_law_values" sValues ["pool", "size", "top"]) (T : Bl4 mg) (cD : FnC P w K mg base CX0 1 "_law_draw" ["pool", "many"] spDraw) : FnC P w K mg base CX0 2 "_law_values" ["pool", "size", "top"] (spLValues K) := by
  refine D.ok scLValues (fun vs H Q E h => ?_) (fun f cdv A outer s H vs Q E hr h => ?_)
  · obtain ⟨p, size, top, rfl, _⟩ := h
    rfl
  · obtain ⟨p, size, top, rfl, hP, h0, t0, t1, k⟩ := h
    have sc := scLValues
    refine ⟨_, (pss_one (ps_ret (pe_lc (own := [("turn", 3)]) (g := gName 3) (tt := tYes) rfl sc.nd (pi_range1 (by rfl) T.n_range (pa_cons (pe_c cD hr rfl (pa_cons (pv 0) (pa_cons (pe_op op_add (pv 2) pe_int) pa_nil))) pa_nil)) (blkOk_by (N := ["pool", "size", "top", "turn"]) (sc := defScope sValues) (by decide +kernel)) (fun _ _ _ _ _ => (pg_name (i := 3) sc.nd rfl (Or.inl rfl))) (fun _ _ _ _ _ => pts_nil) (fun _ _ _ _ _ => (pe_c cD hr rfl (pa_cons (pv 0) (pa_cons (pv 1) pa_nil))))))), ?_⟩
    have hz := sizeLine_eq
    walk_at "wp"
    refine ⟨p, top + 1, rfl, hP, by omega, fun v G v0 v1 g1 => ⟨v, rfl, by omega, by omega, ?_⟩⟩
    refine lcw_it (walk_range (lo := 0)) (fun D i G2 => Gr p H G2 ∧ D ≠ p ∧ ∃ ns : List Int, G2 D = some (.lst (ns.map V.int)) ∧ ns.length = i ∧ valsOk size ns) (fun D hD => ⟨g1.trans (Gr.new g1.pool hD), (g1.pool.ne_none hD).symm, [], upd_same, rfl, fun n h => nomatch h⟩) (fun _ _ _ _ _ => True.intro) ?_ ?_
    · rintro D i y B B' hD hi ⟨b1, nDp, ns, hB, hl, hv⟩ ⟨rfl, rfl⟩
      walk_at "wp"
      refine ⟨p, size, rfl, b1.pool, h0, fun u B2 u0 u1 b2 => ⟨_, b2.keep _ _ nDp hB, by rw [List.length_map]; omega, (b1.trans b2).mut hP (g1.free hP hD), nDp, ns ++ [u], by rw [upd_same, List.map_append]; rfl, by rw [List.length_append, hl]; rfl, fun n hn => ?_⟩⟩
      rcases List.mem_append.mp hn with hn | hn
      · exact hv n hn
      · rw [List.mem_singleton.mp hn]
        exact ⟨u0, u1⟩
    · rintro D B hD ⟨b1, nDp, ns, hB, hl, hv⟩
      exact k D ns B b1 (g1.free hP hD) nDp hB hv (by rw [hl]; omega)
end

def Sl23 (a : V) (τ : L2.St) : Prop := ∃ u1 u2 u3 u4 u5 u6 u7 u8 : Option V, τ = [some a, u1, u2, u3, u4, u5, u6, u7, u8]
section
variable {P : Program} {w : World} {K : PySem.W.Frag} {mg : Str → Option Value} {base : Heap}
structure PartsLaw23 (P : Program) (w : World) (K : PySem.W.Frag) (mg : Str → Option Value) (base : Heap) (CP CD : Addr) : Prop where
  pool : FnC P w K mg base CX0 2 "_law_pool" ["cell", "salt", "many"] spPool
  plan : FnC P w K mg base CX0 5 "_law_plan" ["pool", "top", "plain"] (spPlan K)
  prog : FnC P w K mg base CX0 7 "_law_program" ["plan"] (spLProgram K CP)
  vals : FnC P w K mg base CX0 2 "_law_values" ["pool", "size", "top"] (spLValues K)
  text : FnC P w K mg base CX0 2 "_law_text" ["plan"] (spLText K)
  heard : FnD P w K mg base CX0 9 "_law_heard" ["way", "thing"] (spHeard K CP CD)
  bent : FnC P w K mg base CX0 3 "_law_bent" ["pool", "text"] spBent
  reads : FnD P w K mg base CX0 10 "_law_reads" ["text"] (spReads K)
  dataR : FnD P w K mg base CX0 10 "_law_data_right" ["pool", "some"] (spDataR K)
  long : FnC P w K mg base CX0 9 "_law_longest" [] spLongest
  eqP : MtC P w K mg base CX0 1 CP "__eq__" ["self", "other"] (spEqP K CP)
  pc : ProgC K CP
  ndP : NoD K CP
  ndD : NoD K CD
def spLaw23 (K : PySem.W.Frag) : Sp := fun vs H Q _ => ∃ (a : Addr) (ns : List Int), vs = [.ref a] ∧ ns.length ≤ 63 ∧ SqL K H a (ns.map V.int) ∧ ∀ H', Q (.bl true) H'
theorem scLaw23 : FnScope ["script", "k", "cell", "pool", "plan", "program", "text", "turn", "thing"] ["script"] (defScope sLaw23) := ⟨rfl, rfl, rfl, by decide +kernel, rfl, by decide +kernel, by decide +kernel⟩
theorem c_law23 {CP CD f : Addr} {fd : FuncData} (F : L2.Fun K "law" "law" sLaw23 f fd) (T : Bl4 mg) (n_repr : mg "repr" = none) (N : PartsLaw23 P w K mg base CP CD) : FnG P w K mg base CX0 12 f fd ["script"] (spLaw23 K) := by
  refine fun_okG F scLaw23 (fun vs H Q E h => ?_) (fun cdv A0 outer s H vs Q E hgu hr h => ?_)
  · obtain ⟨a, ns, rfl, _⟩ := h
    rfl
  · obtain ⟨a, ns, rfl, hn, hS, k⟩ := h
    have sc := scLaw23
    have hu := hu_of hr
    have hu80 : (A0.deeper (envOfC "law" (defScope sLaw23) s.heap.objs.size f cdv)).units + 80 < cLine := by have := hr.un; omega
    have hr1 : Room 1 _ := hr.mono (by decide)
    have hr2 : Room 2 _ := hr.mono (by decide)
    have hr3 : Room 3 _ := hr.mono (by decide)
    have hr5 : Room 5 _ := hr.mono (by decide)
    have hr7 : Room 7 _ := hr.mono (by decide)
    have hr9 : Room 9 _ := hr.mono (by decide)
    have hr10 : Room 10 _ := hr.mono (by decide)
    obtain ⟨fL, fdL, FL, gL, kL, bL⟩ := N.long.ex
    refine ⟨_, (pss_cut (ps_for (passes_of rfl) rfl (pi_enumA false (by rfl) T.n_enumerate (pa_cons (pe_op op_cat (pe_slice sl_list (pv 0) po_none (po_some pe_int)) (pe_op op_rep (pe_lst (pa_cons pe_int pa_nil)) (pe_callTy call_int1 (by rfl) T.n_int (by decide +kernel) (pa_cons (pe_cmpR (op_eqD hr.units) (pv 0) (pe_lst pa_nil) (nomark _)) pa_nil)))) pa_nil)) (pg_tup (by rfl) (pgs_cons (pg_name (i := 1) sc.nd rfl (Or.inl rfl)) (pgs_cons (pg_name (i := 2) sc.nd rfl (Or.inl rfl)) pgs_nil)))
      (pss_cut (ps_set (i := 3) sc.nd rfl (Or.inl rfl) (pe_c N.pool hr2 rfl (pa_cons (pv 2) (pa_cons (pe_op op_add pe_int (pv 1)) (pa_cons pe_int pa_nil)))))
      (pss_cut (ps_set (i := 4) sc.nd rfl (Or.inl rfl) (pe_c N.plan hr5 rfl (pa_cons (pv 3) (pa_cons pe_int (pa_cons (pe_cmpR op_eq (pe_op op_mod (pv 1) pe_int) pe_int (nomark _)) pa_nil)))))
      (pss_cut (ps_par (i := 5) (j := 6) (by rfl) sc.nd rfl rfl (by decide) rfl rfl (pa_cons (pe_c N.prog hr7 rfl (pa_cons (pv 4) pa_nil)) (pa_cons (pe_c N.text hr2 rfl (pa_cons (pv 4) pa_nil)) pa_nil)) (by rfl))
      (pss_cut (ps_if (PW.pt (pw_or (pt_cmpR (op_neOwn mon_flat eqG_flat hr1) (pe_d N.heard hgu hr9 pass0 rfl (pa_cons pe_int (pa_cons (pv 5) pa_nil))) (pe_lst (pa_cons pe_str (pa_cons (pv 6) pa_nil))) (nomark _)) (pw_or1 (pt_cmpR (op_neTwo N.eqP (R := SameP K CP) prog_ext prog_eq hr2) (pe_d N.heard hgu hr9 pass0 rfl (pa_cons pe_int (pa_cons (pv 6) pa_nil))) (pe_lst (pa_cons pe_str (pa_cons (pv 5) pa_nil))) (nomark _))))) (pss_one (ps_ret pe_bl)) pss_nil)
      (pss_cut (ps_for (passes_of rfl) rfl (pi_range1 (by rfl) T.n_range (pa_cons pe_int pa_nil)) (pg_name (i := 7) sc.nd rfl (Or.inl rfl))
        (pss_one (ps_if (pt_not (pt_val (pe_d N.reads hgu hr10 pass0 rfl (pa_cons (pe_c N.bent hr3 rfl (pa_cons (pv 3) (pa_cons (pv 6) pa_nil))) pa_nil)))) (pss_one (ps_ret pe_bl)) pss_nil)))
      (pss_cut (ps_if (pt_not (pt_val (pe_d N.dataR hgu hr10 pass0 rfl (pa_cons (pv 3) (pa_cons (pe_c N.vals hr2 rfl (pa_cons (pv 3) (pa_cons pe_int (pa_cons pe_int pa_nil)))) pa_nil))))) (pss_one (ps_ret pe_bl)) pss_nil)
      (pss_cut (ps_for (passes_of rfl) rfl (pi_list (pe_lst (pa_cons pe_non (pa_cons pe_int (pa_cons (pe_lst pa_nil) (pa_cons (pv 6) (pa_cons (pe_tup pa_nil) pa_nil))))))) (pg_name (i := 8) sc.nd rfl (Or.inl rfl))
        (pss_one (ps_if (PW.pt (pw_or (pt_cmpR (op_neOwn mon_flat eqG_flat hr1) (pe_d N.heard hgu hr9 pass0 rfl (pa_cons pe_int (pa_cons (pv 8) pa_nil))) (pe_lst (pa_cons pe_str (pa_cons (pe_callB (call_reprEK K rfl hgu hu80) (by rfl) n_repr (by decide +kernel) (pa_cons (pv 8) pa_nil)) pa_nil))) (nomark _)) (pw_or1 (pt_cmpR (op_neOwn mon_flat eqG_flat hr1) (pe_d N.heard hgu hr9 pass0 rfl (pa_cons pe_int (pa_cons (pv 8) pa_nil))) (pe_lst (pa_cons pe_str (pa_cons (pe_callB (call_reprEK K rfl hgu hu80) (by rfl) n_repr (by decide +kernel) (pa_cons (pv 8) pa_nil)) pa_nil))) (nomark _))))) (pss_one (ps_ret pe_bl)) pss_nil)))
      (pss_cut (ps_for (passes_of rfl) rfl (pi_list (pe_lst (pa_cons pe_non (pa_cons pe_int (pa_cons (pe_lst pa_nil) (pa_cons (pe_fld (pv 5) rfl) (pa_cons pe_str (pa_cons pe_str (pa_cons pe_str (pa_cons pe_str pa_nil)))))))))) (pg_name (i := 8) sc.nd rfl (Or.inl rfl))
        (pss_one (ps_if (pt_cmpR (op_neOwn mon_flat eqG_flat hr1) (pe_d N.heard hgu hr9 pass0 rfl (pa_cons pe_int (pa_cons (pv 8) pa_nil))) (pe_lst (pa_cons pe_str (pa_cons (pe_callB (call_reprEK K rfl hgu hu80) (by rfl) n_repr (by decide +kernel) (pa_cons (pv 8) pa_nil)) pa_nil))) (nomark _)) (pss_one (ps_ret pe_bl)) pss_nil)))
      (pss_one (ps_if (pt_cmpR (op_neV hr.units) (pe_lc (own := [("thing", 8)]) (g := gName 8) rfl sc.nd (pi_list (pe_lst (pa_cons pe_non (pa_cons pe_int (pa_cons (pe_lst pa_nil) (pa_cons (pe_tup pa_nil) pa_nil)))))) (blkOk_by (N := ["script", "k", "cell", "pool", "plan", "program", "text", "turn", "thing"]) (sc := defScope sLaw23) (by decide +kernel)) (fun _ _ _ _ _ => (pg_name (i := 8) sc.nd rfl (Or.inl rfl))) (fun _ _ _ _ _ => (pts_one (pt_cmpR (op_neOwn (D := DFlat) mon_flat eqG_flat hr1) (pe_d N.heard hgu hr9 pass0 rfl (pa_cons pe_int (pa_cons (pv 8) pa_nil))) (pe_lst (pa_cons pe_str (pa_cons (pe_callB (call_reprEK K rfl hgu hu80) (by rfl) n_repr (by decide +kernel) (pa_cons (pv 8) pa_nil)) pa_nil))) (nomark _)))) (fun _ _ _ _ _ => (pv 8))) (pe_lst pa_nil) (nomark _)) (pss_one (ps_ret pe_bl)) pss_nil)))))))))))
    (pss_one (ps_ret (pe_call0 FL hr9 rfl gL kL bL .nil pass0)))), ?_⟩
    have hz := sizeLine_eq
    refine cut_hide (fun τ G => True) (fun M' hM => ?_) (fun τ G _ => by
      walk_at "wp"
      exact ⟨rfl, fun G _ => k G⟩)
    walk_at "wp"
    refine ⟨_, hS, fun p hp => ⟨by decide, fun p1 hp1 => ⟨Nat.zero_le _, fun p2 hp2 => ?_⟩⟩⟩
    have s2 : Same H (upd (upd (upd H p (.lst (cutV (ns.map V.int) none (some 6)))) p1 (.lst [.int 7])) p2 (.lst [])) := (same_new hp).trans ((same_new hp1).trans (same_new hp2))
    have np1 : p ≠ p1 := fun z => by
      rw [← z, upd_same] at hp1
      cases hp1
    have n12 : p1 ≠ p2 := fun z => by
      rw [← z, upd_same] at hp2
      cases hp2
    have np2 : p ≠ p2 := fun z => by
      rw [← z, upd_ne np1, upd_same] at hp2
      cases hp2
    have hp1' : (upd (upd (upd H p (.lst (cutV (ns.map V.int) none (some 6)))) p1 (.lst [.int 7])) p2 (.lst [])) p1 = some (.lst [.int 7]) := by rw [upd_ne n12, upd_same]
    have hp' : (upd (upd (upd H p (.lst (cutV (ns.map V.int) none (some 6)))) p1 (.lst [.int 7])) p2 (.lst [])) p = some (.lst (cutV (ns.map V.int) none (some 6))) := by rw [upd_ne np2, upd_ne np1, upd_same]
    refine ⟨.list (ns.map PyData.int), .list [], .lst (Same.sqL s2 hS) (dps_intD ns), .lst (SqL.of upd_same) .nil, shaped_ints ns, rfl, ?_⟩
    generalize upd (upd (upd H p (.lst (cutV (ns.map V.int) none (some 6)))) p1 (.lst [.int 7])) p2 (.lst []) = G0 at s2 hp1' hp'
    generalize PyData.eqv (.list (ns.map PyData.int)) (.list []) = bb
    have isI : ∀ x ∈ cutV (ns.map V.int) none (some 6), ∃ c : Int, x = .int c := fun x hx => by
      obtain ⟨c, _, rfl⟩ := List.mem_map.mp (List.mem_of_mem_drop (List.mem_of_mem_take hx))
      exact ⟨c, rfl⟩
    have lcut : (cutV (ns.map V.int) none (some 6)).length ≤ 63 := by
      have e := cutV_length (ns.map V.int) none (some 6)
      rw [List.length_map] at e
      omega
    generalize cutV (ns.map V.int) none (some 6) = cs at hp' isI lcut
    refine .inr ⟨bb, rfl, _, hp1', by split <;> decide, by split <;> decide, by have e := sizeLine_eq; split <;> simp <;> omega, fun p3 hp3 => ⟨cs, (upd_ne (ne_of_none hp' hp3)).trans hp', _, upd_same, ?_, fun L hL => ⟨⟨_, SqL.of upd_same⟩, ?_⟩⟩⟩
    · have e := sizeLine_eq
      split <;> simp <;> omega
    have tl : ∀ x ∈ (List.replicate (if bb = true then (1 : Int) else 0).toNat [V.int 7]).flatten, ∃ c : Int, x = .int c := fun x hx => by
      obtain ⟨l, hl, hx⟩ := List.mem_flatten.mp hx
      rw [List.eq_of_mem_replicate hl] at hx
      exact ⟨7, List.mem_singleton.mp hx⟩
    have ll : (List.replicate (if bb = true then (1 : Int) else 0).toNat [V.int 7]).flatten.length ≤ 1 := by
      cases bb <;> decide
    generalize (List.replicate (if bb = true then (1 : Int) else 0).toNat [V.int 7]).flatten = tail at tl ll hL
    have isX : ∀ x ∈ cs ++ tail, ∃ c : Int, x = .int c := fun x hx => by
      rcases List.mem_append.mp hx with hx | hx
      · exact isI x hx
      · exact tl x hx
    have lX : (cs ++ tail).length ≤ 64 := by
      rw [List.length_append]
      omega
    have hL0 : SqA false K (upd (upd G0 p3 (.lst tail)) L (.lst (cs ++ tail))) L (cs ++ tail) := SqL.of upd_same
    generalize upd (upd G0 p3 (.lst tail)) L (.lst (cs ++ tail)) = Gst at hL0
    generalize cs ++ tail = xs at isX lX hL0
    clear isI lcut tl ll hL hp' hp1' s2 hp hp1 hp2 np1 n12 np2 hp3
    -- over the cells
    refine loop_it (walk_enumA (t := false) (xs := xs)) (fun i τ G => Sl23 (.ref a) τ ∧ SqA false K G L xs) ⟨⟨_, _, _, _, _, _, _, _, rfl⟩, hL0⟩ (fun i τ G _ h => h.2) ?_ (fun τ G h => hM _ _ trivial)
    rintro i x τ G1 G2 hi ⟨⟨u1, u2, u3, u4, u5, u6, u7, u8, rfl⟩, hq⟩ ⟨q, y1, y2, rfl, hqq, rfl, hy1, hy2⟩
    cases hy1
    obtain ⟨c, rfl⟩ := isX y2 (List.mem_of_getElem? hy2)
    walk_at "wp"
    refine ⟨_, SqT.of upd_same, rfl, _, _, rfl, _, _, rfl, rfl, ?_⟩
    have hq2 := sqA_same (same_new (o := .tup [V.int (i : Nat), V.int c]) hqq) hq
    generalize upd G1 q (.tup [V.int (i : Nat), V.int c]) = Gs at hq2
    refine cut_hide (fun τ G => ∃ pp : Addr, τ = [some (.ref a), some (.int (i : Nat)), some (.int c), some (.ref pp), u4, u5, u6, u7, u8] ∧ Same Gs G ∧ Gs pp = none ∧ Pool G pp) (fun M' hM => ?_) ?_
    · walk_at "wp"
      exact ⟨c, 2300 + (i : Nat), 400, rfl, by omega, by omega, by decide, by decide, fun pp G s1 n1 P1 => hM _ _ ⟨pp, rfl, s1, n1, P1⟩⟩
    rintro τ Gp ⟨pp, rfl, sp, np, PP⟩
    refine cut_hide (fun τ G => ∃ (d : Addr) (pl : PlanD), τ = [some (.ref a), some (.int (i : Nat)), some (.int c), some (.ref pp), some (.ref d), u5, u6, u7, u8] ∧ Gr pp Gp G ∧ PlanAt K G d pl ∧ pl.Ok 12) (fun M' hM => ?_) ?_
    · walk_at "wp"
      exact ⟨by decide, rfl, pp, 12, _, rfl, PP, by decide, by decide, fun d pl H1 g1 nd hd ok => hM _ _ ⟨d, pl, rfl, g1, hd, ok⟩⟩
    rintro τ Gd0 ⟨d, pl, rfl, gd0, hpd0, ok⟩
    have okp := plan_ok ok (by decide)
    have hT := prog_ok okp
    have hU := law_short okp
    have hP := law_parse okp
    have hpt := ok_pt okp
    have hrr := rows_rp ok (by decide)
    refine cut_hide (fun τ G => ∃ y : Addr, τ = [some (.ref a), some (.int (i : Nat)), some (.int c), some (.ref pp), some (.ref d), some (.ref y), some (.str (lawT (prD pl))), u7, u8] ∧ Gr pp Gp G ∧ ProgAt K CP G y (prD pl)) (fun M' hM => ?_) ?_
    · walk_at "wp"
      refine ⟨d, pl, 12, rfl, hpd0, ok, by decide, fun y F0 sF0 hy hpF0 => ?_⟩
      obtain ⟨ra, wa, as, h1, h2, h3, h4⟩ := hpd0
      exact ⟨d, ra, wa, as, prD pl, rfl, sF0 _ _ h1, Same.sqT sF0 h4, Same.sqT sF0 h2, dps_same sF0 _ _ (rows_dat h3), hpt, fun F1 s1 => hM _ _ ⟨y, rfl, gd0.trans (Gr.ofSame gd0.pool (sF0.trans s1)), hpF0.same s1⟩⟩
    rintro τ Gd ⟨y, rfl, gd1, hyd⟩
    have Pd := gd1.pool
    generalize lawT (prD pl) = z at hT hU hP ⊢
    refine cut_hide (fun τ G => τ = [some (.ref a), some (.int (i : Nat)), some (.int c), some (.ref pp), some (.ref d), some (.ref y), some (.str z), u7, u8] ∧ Same Gd G) (fun M' hM => ?_) ?_
    · walk_at "wp"
      refine ⟨0, _, rfl, .inl ⟨y, prD pl, rfl, hyd, hpt, fun q F1 f1 nq _ hq => ⟨by omega, fun p np => ?_⟩⟩⟩
      rw [hT] at hq
      have sp1 := same_new (o := .lst [V.str "told", V.str z]) np
      refine ⟨two_strs (sp1 _ _ hq) upd_same, fun F2 f2 => ?_⟩
      refine ⟨1, _, rfl, .inr ⟨z, rfl, hU.ok, (fun e => by rw [hP] at e; cases e), fun g eg y2 q2 F3 f3 nq2 hy2 hq2 => ⟨by omega, fun p5 np5 => ?_⟩⟩⟩
      have eg' : g = prD pl := Option.some.inj (eg.symm.trans hP)
      subst eg'
      have sp5 := same_new (o := .lst [V.str "told", V.ref y]) np5
      have hyf : ProgAt K CP F3 y (prD pl) := hyd.same (((f1.trans sp1).trans f2).trans f3)
      obtain ⟨d3, _, _, _, _, q3i, _⟩ := id (hy2.same sp5)
      obtain ⟨d5, _, _, _, _, q5i, _⟩ := id (hyf.same sp5)
      exact ⟨⟨_, _, _, _, _, _, _, _, _, rfl, rfl, sp5 _ _ hq2, upd_same, q3i, q5i, _, hy2.same sp5, hyf.same sp5, okp⟩, fun F6 f6 => hM _ _ ⟨rfl, ((((f1.trans sp1).trans f2).trans f3).trans sp5).trans f6⟩⟩
    rintro τ Ge ⟨rfl, se⟩
    have ge := gd1.trans (Gr.ofSame Pd se)
    refine cut_hide (fun τ G => ∃ v7, τ = [some (.ref a), some (.int (i : Nat)), some (.int c), some (.ref pp), some (.ref d), some (.ref y), some (.str z), v7, u8] ∧ Gr pp Gp G ∧ ProgAt K CP G y (prD pl)) (fun M' hM => ?_) ?_
    · walk_at "wp"
      refine ⟨by decide, by decide, ?_⟩
      have hye := hyd.same se
      refine loop_it (walk_range (lo := 0)) (fun j τ F => ∃ v7, τ = [some (.ref a), some (.int (i : Nat)), some (.int c), some (.ref pp), some (.ref d), some (.ref y), some (.str z), v7, u8] ∧ Gr pp Gp F ∧ ProgAt K CP F y (prD pl)) ⟨_, rfl, ge, hye⟩ (fun _ _ _ _ _ => True.intro) ?_ ?_
      · rintro j v τ F1 F2 hj ⟨v7, rfl, gF, hyF⟩ ⟨rfl, rfl⟩
        walk_at "wp"
        have PF := gF.pool
        refine ⟨pp, z, rfl, PF, hU, fun z' F3 g3 ok' => ⟨z', rfl, ok', fun F4 f4 => ⟨true, rfl, Eq.mpr (if_neg (by decide)) ?_⟩⟩⟩
        have g4 := g3.trans (Gr.ofSame g3.pool f4)
        exact ⟨⟨_, rfl⟩, gF.trans g4, hyF.gr okp PF g4⟩
      · rintro τ F ⟨v7, rfl, gF, hyF⟩
        exact hM _ _ ⟨v7, rfl, gF, hyF⟩
    rintro τ Gf ⟨v7, rfl, gf, hyf⟩
    have Pf := gf.pool
    refine cut_hide (fun τ G => τ = [some (.ref a), some (.int (i : Nat)), some (.int c), some (.ref pp), some (.ref d), some (.ref y), some (.str z), v7, u8] ∧ Gr pp Gp G ∧ ProgAt K CP G y (prD pl)) (fun M' hM => ?_) ?_
    · walk_at "wp"
      refine ⟨pp, 3, 12, rfl, Pf, by decide, by decide, by decide, fun D ns' F1 g1 nD nDp hD hv hl => ?_⟩
      refine ⟨_, D, ns', rfl, hD, fun n hn => ?_, by omega, fun F2 f2 => ⟨true, rfl, Eq.mpr (if_neg (by decide)) (hM _ _ ⟨rfl, ?_⟩)⟩⟩
      · have := hv n hn
        omega
      · have g2 := g1.trans (Gr.ofSame g1.pool f2)
        exact ⟨gf.trans g2, hyf.gr okp Pf g2⟩
    rintro τ Gg ⟨rfl, gg, hyg⟩
    have Pg := gg.pool
    refine cut_hide (fun τ G => ∃ v8, τ = [some (.ref a), some (.int (i : Nat)), some (.int c), some (.ref pp), some (.ref d), some (.ref y), some (.str z), v7, v8] ∧ Same Gg G) (fun M' hM => ?_) ?_
    · walk_at "wp"
      refine ⟨Nat.zero_le _, fun q1 n1 => ⟨Nat.zero_le _, fun q2 n2 => ⟨by omega, fun q3 n3 => ?_⟩⟩⟩
      have s1 := same_new (o := .lst []) n1
      have h1 : (upd Gg q1 (.lst [])) q1 = some (.lst []) := upd_same
      have s2 := same_new (o := .tup []) n2
      have h2 : (upd (upd Gg q1 (.lst [])) q2 (.tup [])) q2 = some (.tup []) := upd_same
      have s3 := same_new (o := .lst [V.non, V.int 5, V.ref q1, V.str z, V.ref q2]) n3
      have h3 : (upd (upd (upd Gg q1 (.lst [])) q2 (.tup [])) q3 (.lst [V.non, V.int 5, V.ref q1, V.str z, V.ref q2])) q3 = some (.lst [V.non, V.int 5, V.ref q1, V.str z, V.ref q2]) := upd_same
      have s13 := (s1.trans s2).trans s3
      have h1' := (s2.trans s3) _ _ h1
      have h2' := s3 _ _ h2
      generalize upd (upd (upd Gg q1 (.lst [])) q2 (.tup [])) q3 (.lst [V.non, V.int 5, V.ref q1, V.str z, V.ref q2]) = A at s13 h3 h1' h2' ⊢
      have key : ∀ v ∈ [V.non, V.int 5, V.ref q1, V.str z, V.ref q2], ∃ d, Dp K A v d ∧ Rp d := fun v hv => by
        simp only [List.mem_cons, List.not_mem_nil, or_false] at hv
        rcases hv with rfl | rfl | rfl | rfl | rfl
        · exact ⟨_, .non, rp_by (by decide +kernel)⟩
        · exact ⟨_, .int 5, rp_by (by decide +kernel)⟩
        · exact ⟨_, .lst (SqL.of h1') .nil, rp_by (by decide +kernel)⟩
        · exact ⟨_, .str z, rp_text hU.ok⟩
        · exact ⟨_, .tup (SqT.of h2') .nil, rp_by (by decide +kernel)⟩
      refine ⟨⟨_, SqL.of h3⟩, ?_⟩
      refine loop_it (walk_list (xs := [V.non, V.int 5, V.ref q1, V.str z, V.ref q2])) (fun j τ F => ∃ v8, τ = [some (.ref a), some (.int (i : Nat)), some (.int c), some (.ref pp), some (.ref d), some (.ref y), some (.str z), v7, v8] ∧ Same A F) ⟨_, rfl, Same.refl _⟩ (fun j τ F _ h => by obtain ⟨_, _, h⟩ := h; exact SqL.of (h _ _ h3)) ?_ ?_
      · rintro j v τ F1 F2 hj ⟨v8, rfl, sF⟩ ⟨rfl, hY⟩
        obtain ⟨e, he, re⟩ := key v (List.mem_of_getElem? hY)
        have he1 := dp_same sF _ _ he
        walk_at "wp"
        refine ⟨0, _, rfl, .inr ⟨noI_dp N.ndP he1, e, he1, re, fun q F3 f3 nq _ hq => ⟨e, .inl (dp_same f3 _ _ he1), re, by omega, fun p4 n4 => ?_⟩⟩⟩
        have s4 := same_new (o := .lst [V.str "program", V.str e.shown]) n4
        refine ⟨two_strs (s4 _ _ hq) upd_same, fun F5 f5 => ?_⟩
        have f15 := (f3.trans s4).trans f5
        have he5 := dp_same f15 _ _ he1
        refine ⟨2, _, rfl, .inr ⟨noI_dp N.ndD he5, e, he5, re, fun q6 F6 f6 nq6 _ hq6 => ⟨e, .inl (dp_same f6 _ _ he5), re, by omega, fun p7 n7 => ?_⟩⟩⟩
        have s7 := same_new (o := .lst [V.str "data", V.str e.shown]) n7
        exact ⟨two_strs (s7 _ _ hq6) upd_same, fun F8 f8 => ⟨⟨_, rfl⟩, sF.trans (((f15.trans f6).trans s7).trans f8)⟩⟩
      · rintro τ F ⟨v8, rfl, sF⟩
        exact hM _ _ ⟨v8, rfl, s13.trans sF⟩
    rintro τ Gh ⟨v8, rfl, sh⟩
    refine cut_hide (fun τ G => ∃ v8, τ = [some (.ref a), some (.int (i : Nat)), some (.int c), some (.ref pp), some (.ref d), some (.ref y), some (.str z), v7, v8] ∧ Same Gh G) (fun M' hM => ?_) ?_
    · walk_at "wp"
      have hyh := hyg.same sh
      refine ⟨Nat.zero_le _, fun q1 n1 => ?_⟩
      have s1 := same_new (o := .lst []) n1
      have h1 : (upd Gh q1 (.lst [])) q1 = some (.lst []) := upd_same
      obtain ⟨dy, wr, t, plA, chA, hyi, _, ht, _⟩ := id (hyh.same s1)
      refine ⟨CP, dy, _, hyi, N.pc.cls, N.pc.n3, _, rfl, by omega, fun q3 n3 => ?_⟩
      have s3 := same_new (o := .lst [V.non, V.int 5, V.ref q1, V.ref t, V.str "", V.str "\n", V.str "values 2\n", V.str "values 2\nregisters x\n"]) n3
      have h3 : (upd (upd Gh q1 (.lst [])) q3 (.lst [V.non, V.int 5, V.ref q1, V.ref t, V.str "", V.str "\n", V.str "values 2\n", V.str "values 2\nregisters x\n"])) q3 = some (.lst [V.non, V.int 5, V.ref q1, V.ref t, V.str "", V.str "\n", V.str "values 2\n", V.str "values 2\nregisters x\n"]) := upd_same
      have s13 := s1.trans s3
      have h1' := s3 _ _ h1
      have ht' := dp_same s3 _ _ ht
      generalize upd (upd Gh q1 (.lst [])) q3 (.lst [V.non, V.int 5, V.ref q1, V.ref t, V.str "", V.str "\n", V.str "values 2\n", V.str "values 2\nregisters x\n"]) = A at s13 h3 h1' ht' ⊢
      have key : ∀ v ∈ [V.non, V.int 5, V.ref q1, V.ref t, V.str "", V.str "\n", V.str "values 2\n", V.str "values 2\nregisters x\n"], (∃ d, Dp K A v d ∧ (∀ z, d ≠ .str z) ∧ Rp d) ∨ ∃ z, v = .str z ∧ OkT z ∧ parseG z = none := fun v hv => by
        simp only [List.mem_cons, List.not_mem_nil, or_false] at hv
        rcases hv with rfl | rfl | rfl | rfl | rfl | rfl | rfl | rfl
        · exact .inl ⟨_, .non, (fun _ z => nomatch z), rp_by (by decide +kernel)⟩
        · exact .inl ⟨_, .int 5, (fun _ z => nomatch z), rp_by (by decide +kernel)⟩
        · exact .inl ⟨_, .lst (SqL.of h1') .nil, (fun _ z => nomatch z), rp_by (by decide +kernel)⟩
        · exact .inl ⟨_, ht', (fun _ z => nomatch z), hrr⟩
        · exact .inr ⟨_, rfl, ⟨by decide +kernel, by decide +kernel⟩, odd_p0⟩
        · exact .inr ⟨_, rfl, ⟨by decide +kernel, by decide +kernel⟩, odd_p1⟩
        · exact .inr ⟨_, rfl, ⟨by decide +kernel, by decide +kernel⟩, odd_p2⟩
        · exact .inr ⟨_, rfl, ⟨by decide +kernel, by decide +kernel⟩, odd_p3⟩
      refine ⟨⟨_, SqL.of h3⟩, ?_⟩
      refine loop_it (walk_list (xs := [V.non, V.int 5, V.ref q1, V.ref t, V.str "", V.str "\n", V.str "values 2\n", V.str "values 2\nregisters x\n"])) (fun j τ F => ∃ v8, τ = [some (.ref a), some (.int (i : Nat)), some (.int c), some (.ref pp), some (.ref d), some (.ref y), some (.str z), v7, v8] ∧ Same A F) ⟨_, rfl, Same.refl _⟩ (fun j τ F _ h => by obtain ⟨_, _, h⟩ := h; exact SqL.of (h _ _ h3)) ?_ ?_
      · rintro j v τ F1 F2 hj ⟨v8, rfl, sF⟩ ⟨rfl, hY⟩
        walk_at "wp"
        rcases key v (List.mem_of_getElem? hY) with ⟨e, he, hns, re⟩ | ⟨z1, rfl, ok1, e1⟩
        · have he1 := dp_same sF _ _ he
          refine ⟨1, _, rfl, .inl ⟨e, he1, hns, re, fun q F3 f3 nq _ hq => ⟨e, .inl (dp_same f3 _ _ he1), re, by omega, fun p4 n4 => ?_⟩⟩⟩
          have s4 := same_new (o := .lst [V.str "text", V.str e.shown]) n4
          exact ⟨two_strs (s4 _ _ hq) upd_same, fun F5 f5 => ⟨⟨_, rfl⟩, sF.trans ((f3.trans s4).trans f5)⟩⟩
        · refine ⟨1, _, rfl, .inr ⟨z1, rfl, ok1, fun _ q F3 f3 nq _ hq => ⟨.str z1, .inl (.str z1), rp_text ok1, by omega, fun p4 n4 => ?_⟩, fun g eg => by rw [e1] at eg; cases eg⟩⟩
          have s4 := same_new (o := .lst [V.str "text", V.str (PyData.str z1).shown]) n4
          exact ⟨two_strs (s4 _ _ hq) upd_same, fun F5 f5 => ⟨⟨_, rfl⟩, sF.trans ((f3.trans s4).trans f5)⟩⟩
      · rintro τ F ⟨v8, rfl, sF⟩
        exact hM _ _ ⟨v8, rfl, s13.trans sF⟩
    rintro τ Gi ⟨v8', rfl, si⟩
    walk_at "wp"
    refine ⟨Nat.zero_le _, fun q1 n1 => ⟨Nat.zero_le _, fun q2 n2 => ⟨by omega, fun q3 n3 => ?_⟩⟩⟩
    have s1 := same_new (o := .lst []) n1
    have h1 : (upd Gi q1 (.lst [])) q1 = some (.lst []) := upd_same
    have s2 := same_new (o := .tup []) n2
    have h2 : (upd (upd Gi q1 (.lst [])) q2 (.tup [])) q2 = some (.tup []) := upd_same
    have s3 := same_new (o := .lst [V.non, V.int 5, V.ref q1, V.ref q2]) n3
    have h3 : (upd (upd (upd Gi q1 (.lst [])) q2 (.tup [])) q3 (.lst [V.non, V.int 5, V.ref q1, V.ref q2])) q3 = some (.lst [V.non, V.int 5, V.ref q1, V.ref q2]) := upd_same
    have s13 := (s1.trans s2).trans s3
    have h1' := (s2.trans s3) _ _ h1
    have h2' := s3 _ _ h2
    generalize upd (upd (upd Gi q1 (.lst [])) q2 (.tup [])) q3 (.lst [V.non, V.int 5, V.ref q1, V.ref q2]) = A at s13 h3 h1' h2' ⊢
    have key : ∀ v ∈ [V.non, V.int 5, V.ref q1, V.ref q2], ∃ d, Dp K A v d ∧ (∀ z, d ≠ .str z) ∧ Rp d := fun v hv => by
      simp only [List.mem_cons, List.not_mem_nil, or_false] at hv
      rcases hv with rfl | rfl | rfl | rfl
      · exact ⟨_, .non, (fun _ z => nomatch z), rp_by (by decide +kernel)⟩
      · exact ⟨_, .int 5, (fun _ z => nomatch z), rp_by (by decide +kernel)⟩
      · exact ⟨_, .lst (SqL.of h1') .nil, (fun _ z => nomatch z), rp_by (by decide +kernel)⟩
      · exact ⟨_, .tup (SqT.of h2') .nil, (fun _ z => nomatch z), rp_by (by decide +kernel)⟩
    refine ⟨⟨_, SqL.of h3⟩, ?_⟩
    refine lcw_it (walk_list (xs := [V.non, V.int 5, V.ref q1, V.ref q2])) (fun D j F => Same A F ∧ A D = none ∧ F D = some (.lst [])) (fun D hD => ⟨same_new hD, hD, upd_same⟩) (fun D j F _ h => SqL.of (h.1 _ _ h3)) ?_ ?_
    · rintro D j v F1 F2 hD hj ⟨sF, nD, hF⟩ ⟨rfl, hY⟩
      obtain ⟨e, he, hns, re⟩ := key v (List.mem_of_getElem? hY)
      have he1 := dp_same sF _ _ he
      walk_at "wp"
      refine ⟨3, _, rfl, .inl ⟨e, he1, hns, re, fun q F3 f3 nq _ hq => ⟨e, .inl (dp_same f3 _ _ he1), re, by omega, fun p4 n4 => ?_⟩⟩⟩
      have s4 := same_new (o := .lst [V.str "text", V.str e.shown]) n4
      refine ⟨two_strs (s4 _ _ hq) upd_same, fun F5 f5 => ?_⟩
      have f15 := (f3.trans s4).trans f5
      exact ⟨sF.trans f15, nD, f15 _ _ hF⟩
    · rintro D F hD ⟨sF, nD, hF⟩
      refine ⟨Nat.zero_le _, fun p4 n4 => ?_⟩
      have s4 := same_new (o := .lst []) n4
      refine ⟨0, by decide, D, rfl, _, SqL.of (s4 _ _ hF), _, SqL.of upd_same, .nil, ⟨_, _, _, _, _, _, _, _, rfl⟩, ?_⟩
      have gi := gg.trans (Gr.ofSame Pg ((sh.trans si).trans ((s13.trans sF).trans s4)))
      exact sqA_same (same_gr np sp gi) hq2
end

end YY

set_option maxRecDepth 100000
set_option maxHeartbeats 4000000
namespace YY
open PySem PySem.Spec PyProof.Rows L2 XX
/-! ### the end: what the top has written -/
theorem sqT_K {K : PySem.W.Frag} {a : Addr} {dd : Option Addr} {its : Array Value} {n : Nat} {sl : Array (Option Value)} {zs : List Str} (l : K.lookup a = some ⟨.type "tuple", dd, .seq its n, sl⟩) (hv : Vals (zs.map V.str) its.toList) (hz : zs.length ≤ 100) (H : Hp) : SqT K H a (zs.map V.str) := by
  refine .inr ⟨_, its, n, l, rfl, rfl, ?_, hv⟩
  have e := hv.length
  rw [List.length_map] at e
  have e2 := sizeLine_eq
  rw [← Array.length_toList, ← e]
  omega
theorem exm_of {K : PySem.W.Frag} {S C : Addr} {b : Bool} (h1 : PySem.W.subIn K (.ref C) (.type "BaseException") = some true) (h2 : PySem.W.isClsIn K C = true) (h3 : PySem.W.typeIn K (.ref C) = some (.type "type")) (h4 : PySem.W.subIn K (.ref S) (.ref C) = some b) : PySem.W.exmOne K (.ref S) (.ref C) = some b := by
  have e1 : (PySem.W.subIn K (.ref C) (.type "BaseException") == some true) = true := by rw [h1]; rfl
  have e2 : ((PySem.W.clsIn K C).isSome && PySem.W.typeIn K (.ref C) == some (.type "type")) = true := by
    have e3 : (PySem.W.clsIn K C).isSome = true := h2
    rw [e3, h3]
    rfl
  unfold PySem.W.exmOne
  rw [if_pos e1]
  show (if ((PySem.W.clsIn K C).isSome && PySem.W.typeIn K (.ref C) == some (.type "type")) = true then PySem.W.subIn K (.ref S) (.ref C) else none) = some b
  rw [if_pos e2]
  exact h4
/-- of an error class: what stands there -/
theorem err_mk {K : PySem.W.Frag} {h : Heap} {mg : Str → Option Value} {x : Str} {C fI : Addr} {nm q : Str} {N : Addr} {bs bm : List Value} {sn : List Str} {sub : List Value} {ab : Bool} {col : Option Bool} {dd : Option Addr} {m0 m1 m2 m3 m5 : Option Value} (X : K.In h) (G : h.Ns mainGlobals mg)
    (aC : PySem.W.nsIn K mainGlobals x = some (some (.ref C))) (xL : K.lookup C = some (excClassObj nm q C N bs bm true sn sub ab col dd m0 m1 m2 m3 m5 "ValueError.__new__")) (bmr : PySem.HandSPX.refsVE bm = true)
    (sa : PySem.W.findIn K (.ref C) "__setattr__" = some (some (.builtin "object.__setattr__"))) (ga : PySem.W.findIn K (.ref C) "__getattribute__" = some (some (.builtin "BaseException.__getattribute__"))) (gg : PySem.W.findIn K (.ref C) "__getattr__" = some none)
    (no : PySem.W.findIn K (.ref C) "value" = some none) (ini : PySem.W.findIn K (.ref C) "__init__" = some (some (.ref fI))) (tI : PySem.W.typeIn K (.ref fI) = some (.type "function")) (kC : PySem.W.keepIn K (.ref C) = true)
    (eC : PySem.W.subIn K (.ref C) (.type "BaseException") = some true) (tC : PySem.W.typeIn K (.ref C) = some (.type "type")) (hC : PySem.W.hasDictIn K C = true) : ErrC K mg x C fI :=
  ⟨PySem.W.mg_of X G aC, ⟨⟨nm, q, N, bs, bm, sn, sub, ab, col, dd, m0, m1, m2, m3, m5, xL, bmr⟩, sa, eC, tC, kC⟩, ⟨ga, gg, eC, hC⟩, ini, tI, no⟩
/-- the written dict of the forms -/
theorem forms_mk {K : PySem.W.Frag} {w : World} {h : Heap} {mg : Str → Option Value} {fo : Addr} {n : Nat} {h1 h2 h3 h4 h5 h6 h7 h8 h9 h10 h11 : Int} {t1 t2 t3 t4 t5 t6 t7 t8 t9 t10 t11 : Tok} {a1 a2 a3 a4 a5 a6 a7 a8 a9 a10 a11 : Addr} (X : K.In h) (G : h.Ns mainGlobals mg)
    (aF : PySem.W.nsIn K mainGlobals "FORMS" = some (some (.ref fo))) (l : K.lookup fo = some ⟨.type "dict", none, .dict #[(⟨h1, .str "set" t1, .ref a1⟩ : DictEntry), ⟨h2, .str "copy" t2, .ref a2⟩, ⟨h3, .str "take" t3, .ref a3⟩, ⟨h4, .str "if" t4, .ref a4⟩, ⟨h5, .str "go" t5, .ref a5⟩, ⟨h6, .str "group" t6, .ref a6⟩, ⟨h7, .str "meet" t7, .ref a7⟩, ⟨h8, .str "any" t8, .ref a8⟩, ⟨h9, .str "all" t9, .ref a9⟩, ⟨h10, .str "same" t10, .ref a10⟩, ⟨h11, .str "end" t11, .ref a11⟩] n, #[]⟩)
    (lit : PySem.W.KeysLit w.params (Array.toList #[(⟨h1, .str "set" t1, .ref a1⟩ : DictEntry), ⟨h2, .str "copy" t2, .ref a2⟩, ⟨h3, .str "take" t3, .ref a3⟩, ⟨h4, .str "if" t4, .ref a4⟩, ⟨h5, .str "go" t5, .ref a5⟩, ⟨h6, .str "group" t6, .ref a6⟩, ⟨h7, .str "meet" t7, .ref a7⟩, ⟨h8, .str "any" t8, .ref a8⟩, ⟨h9, .str "all" t9, .ref a9⟩, ⟨h10, .str "same" t10, .ref a10⟩, ⟨h11, .str "end" t11, .ref a11⟩])) (low : (fo == sysModules) = false)
    (s1 : ∀ H, SqT K H a1 ((["place", "value"] : List Str).map V.str))
    (s2 : ∀ H, SqT K H a2 ((["place", "place"] : List Str).map V.str))
    (s3 : ∀ H, SqT K H a3 ((["place"] : List Str).map V.str))
    (s4 : ∀ H, SqT K H a4 ((["place", "value", "to", "to"] : List Str).map V.str))
    (s5 : ∀ H, SqT K H a5 ((["to"] : List Str).map V.str))
    (s6 : ∀ H, SqT K H a6 ((["word", "anchor"] : List Str).map V.str))
    (s7 : ∀ H, SqT K H a7 ((["word"] : List Str).map V.str))
    (s8 : ∀ H, SqT K H a8 ((["place", "value", "place"] : List Str).map V.str))
    (s9 : ∀ H, SqT K H a9 ((["place", "value", "place"] : List Str).map V.str))
    (s10 : ∀ H, SqT K H a10 ((["place", "place"] : List Str).map V.str))
    (s11 : ∀ H, SqT K H a11 (([] : List Str).map V.str))
    : FormsOk K w mg fo #[(⟨h1, .str "set" t1, .ref a1⟩ : DictEntry), ⟨h2, .str "copy" t2, .ref a2⟩, ⟨h3, .str "take" t3, .ref a3⟩, ⟨h4, .str "if" t4, .ref a4⟩, ⟨h5, .str "go" t5, .ref a5⟩, ⟨h6, .str "group" t6, .ref a6⟩, ⟨h7, .str "meet" t7, .ref a7⟩, ⟨h8, .str "any" t8, .ref a8⟩, ⟨h9, .str "all" t9, .ref a9⟩, ⟨h10, .str "same" t10, .ref a10⟩, ⟨h11, .str "end" t11, .ref a11⟩] n := by
  have lk : ∀ z : Str, PySem.W.nsIn K fo z = (match (Array.toList #[(⟨h1, .str "set" t1, .ref a1⟩ : DictEntry), ⟨h2, .str "copy" t2, .ref a2⟩, ⟨h3, .str "take" t3, .ref a3⟩, ⟨h4, .str "if" t4, .ref a4⟩, ⟨h5, .str "go" t5, .ref a5⟩, ⟨h6, .str "group" t6, .ref a6⟩, ⟨h7, .str "meet" t7, .ref a7⟩, ⟨h8, .str "any" t8, .ref a8⟩, ⟨h9, .str "all" t9, .ref a9⟩, ⟨h10, .str "same" t10, .ref a10⟩, ⟨h11, .str "end" t11, .ref a11⟩]).find? (·.key.isStr z) with
      | some e => some (some e.val)
      | none => if (Array.toList #[(⟨h1, .str "set" t1, .ref a1⟩ : DictEntry), ⟨h2, .str "copy" t2, .ref a2⟩, ⟨h3, .str "take" t3, .ref a3⟩, ⟨h4, .str "if" t4, .ref a4⟩, ⟨h5, .str "go" t5, .ref a5⟩, ⟨h6, .str "group" t6, .ref a6⟩, ⟨h7, .str "meet" t7, .ref a7⟩, ⟨h8, .str "any" t8, .ref a8⟩, ⟨h9, .str "all" t9, .ref a9⟩, ⟨h10, .str "same" t10, .ref a10⟩, ⟨h11, .str "end" t11, .ref a11⟩]).any (·.refKey) then none else some none) := fun z => by
    unfold PySem.W.nsIn
    rw [l]
    rfl
  refine ⟨PySem.W.mg_of X G aF, ⟨l, lit, low⟩, fun z ns hz => ?_, fun z hz => ?_⟩
  · by_cases c0 : z = "set"
    · subst c0
      cases (show some (["place", "value"] : List Str) = some ns from hz)
      exact ⟨a1, (lk _).trans rfl, s1⟩
    by_cases c1 : z = "copy"
    · subst c1
      cases (show some (["place", "place"] : List Str) = some ns from hz)
      exact ⟨a2, (lk _).trans rfl, s2⟩
    by_cases c2 : z = "take"
    · subst c2
      cases (show some (["place"] : List Str) = some ns from hz)
      exact ⟨a3, (lk _).trans rfl, s3⟩
    by_cases c3 : z = "if"
    · subst c3
      cases (show some (["place", "value", "to", "to"] : List Str) = some ns from hz)
      exact ⟨a4, (lk _).trans rfl, s4⟩
    by_cases c4 : z = "go"
    · subst c4
      cases (show some (["to"] : List Str) = some ns from hz)
      exact ⟨a5, (lk _).trans rfl, s5⟩
    by_cases c5 : z = "group"
    · subst c5
      cases (show some (["word", "anchor"] : List Str) = some ns from hz)
      exact ⟨a6, (lk _).trans rfl, s6⟩
    by_cases c6 : z = "meet"
    · subst c6
      cases (show some (["word"] : List Str) = some ns from hz)
      exact ⟨a7, (lk _).trans rfl, s7⟩
    by_cases c7 : z = "any"
    · subst c7
      cases (show some (["place", "value", "place"] : List Str) = some ns from hz)
      exact ⟨a8, (lk _).trans rfl, s8⟩
    by_cases c8 : z = "all"
    · subst c8
      cases (show some (["place", "value", "place"] : List Str) = some ns from hz)
      exact ⟨a9, (lk _).trans rfl, s9⟩
    by_cases c9 : z = "same"
    · subst c9
      cases (show some (["place", "place"] : List Str) = some ns from hz)
      exact ⟨a10, (lk _).trans rfl, s10⟩
    by_cases c10 : z = "end"
    · subst c10
      cases (show some ([] : List Str) = some ns from hz)
      exact ⟨a11, (lk _).trans rfl, s11⟩
    have b : ∀ k : Str, z ≠ k → (k == z) = false := fun k h => beq_false_of_ne (Ne.symm h)
    unfold formOf formTab at hz
    simp only [List.find?_cons, List.find?_nil, b _ c0, b _ c1, b _ c2, b _ c3, b _ c4, b _ c5, b _ c6, b _ c7, b _ c8, b _ c9, b _ c10, Option.map_none] at hz
    cases hz
  · have c0 : z ≠ "set" := fun e => by
      subst e
      cases hz
    have c1 : z ≠ "copy" := fun e => by
      subst e
      cases hz
    have c2 : z ≠ "take" := fun e => by
      subst e
      cases hz
    have c3 : z ≠ "if" := fun e => by
      subst e
      cases hz
    have c4 : z ≠ "go" := fun e => by
      subst e
      cases hz
    have c5 : z ≠ "group" := fun e => by
      subst e
      cases hz
    have c6 : z ≠ "meet" := fun e => by
      subst e
      cases hz
    have c7 : z ≠ "any" := fun e => by
      subst e
      cases hz
    have c8 : z ≠ "all" := fun e => by
      subst e
      cases hz
    have c9 : z ≠ "same" := fun e => by
      subst e
      cases hz
    have c10 : z ≠ "end" := fun e => by
      subst e
      cases hz
    have b : ∀ k : Str, z ≠ k → (k == z) = false := fun k h => beq_false_of_ne (Ne.symm h)
    rw [lk z]
    have e : (Array.toList #[(⟨h1, .str "set" t1, .ref a1⟩ : DictEntry), ⟨h2, .str "copy" t2, .ref a2⟩, ⟨h3, .str "take" t3, .ref a3⟩, ⟨h4, .str "if" t4, .ref a4⟩, ⟨h5, .str "go" t5, .ref a5⟩, ⟨h6, .str "group" t6, .ref a6⟩, ⟨h7, .str "meet" t7, .ref a7⟩, ⟨h8, .str "any" t8, .ref a8⟩, ⟨h9, .str "all" t9, .ref a9⟩, ⟨h10, .str "same" t10, .ref a10⟩, ⟨h11, .str "end" t11, .ref a11⟩]).find? (·.key.isStr z) = none := by
      simp only [Array.toList, List.find?_cons, List.find?_nil, Value.isStr, b _ c0, b _ c1, b _ c2, b _ c3, b _ c4, b _ c5, b _ c6, b _ c7, b _ c8, b _ c9, b _ c10]
    rw [e]
    rfl
end YY

set_option maxRecDepth 100000
set_option maxHeartbeats 4000000
namespace YY
open PySem PySem.Spec PyProof.Rows L2 XX
local macro_rules | `(tactic| walk_at "wp") => `(tactic| simp only [Int.zero_add, L2.start, LcEnd, List.append_nil, List.cons.injEq, List.cons_append, List.getElem?_cons_succ, List.getElem?_cons_zero, List.length_cons, List.length_nil, List.map_cons, List.map_nil, List.nil_append, List.replicate, List.replicate_succ, List.replicate_zero, List.set_cons_succ, List.set_cons_zero, Nat.reduceAdd, Nat.reduceSub, Option.some.injEq, StX.tMakeR, StX.tStar, V.bl.injEq, V.int.injEq, V.ref.injEq, V.str.injEq, V.ty.injEq, WE, and_assoc, and_false, and_true, bool_ite_false, bool_ite_true, cxOf_K, cxOf_noxK, dec_ite, decide_eq_true_eq, exists_and_left, exists_and_right, exists_const, exists_eq_left, exists_eq_left', false_and, false_or, gCons, gName, gNil, gSub, gTup, iEnumA, iItems, iKeys, iList, iRng1, iRng2, iStr, iTup, iZipB, ite_false, ite_true, ndec_ite, or_false, rAppend, rCat, rCatT, rEq, rEqI, rEqK, rEqV, rExt2, rI, rI0, rIn, rInRg, rIndex, rIsD, rIsE, rIsE2, rIxD, rIxL, rIxS, rIxT, rLenI, rLenK, rListStr, rMax, rMaxDef, rSetIM, rEqT, sFldAug, rAdd, rMin, rMulS, rNe, rNeDA, rNeV, rRange1, rRep, rRepA, rReprE, rReprI, rSetD, rSetI, rSetL, rSlL, rSlT, rSortedSet, rU, reduceCtorEq, reduceIte, sFld, tAnd, tAndV, tAsg, tAug, tB, tBM, tBM0, tC, tCB, tCKw, tDGetT, tCall, tCallS, tChain, tCons, tDGet, tDIn, tDNewK, tDNotIn, tDcT_eq, tDc_eq, tDisp, tDrop, tErr, tFld, tFor_eq, tIf, tIfS, tIxI, tLc2_eq, tLc_eq, tLenSetS, tLock, tLockE, tLst, tLstRg, tM1, tMakeRS, tMakeS, tMakeV, tMakeVS, tMeth, tMethX, tMkO, tMulA, tMulD, tNext, tNil, tNoPart, tNot, tNotV, tOp, tOpI, tOpR, tOr, tOrV, tOst, tPairs, tPar, tPar3, tPart, tRet, tRetN, tRevT, tRg2, tSMeth, tSeq, tSl, tTest, tTup, tUn, tVar, tVeI, tXf, tYes, true_and, wAs, wMA, wipe, rTupOf])
set_option autoImplicit false
/-- of an error class, what the clauses ask -/
structure ErrX (K : PySem.W.Frag) (C : Addr) : Prop where
  e : PySem.W.subIn K (.ref C) (.type "BaseException") = some true
  i : PySem.W.isClsIn K C = true
  t : PySem.W.typeIn K (.ref C) = some (.type "type")
theorem exmX {K : PySem.W.Frag} {S C : Addr} {b : Bool} (X : ErrX K C) (h4 : PySem.W.subIn K (.ref S) (.ref C) = some b) : PySem.W.exmOne K (.ref S) (.ref C) = some b := exm_of X.e X.i X.t h4
/-- the defs of the text, each under its name -/
structure Defs (K : PySem.W.Frag) (mg : Str → Option Value) : Prop where
  d_is_whole : Def K mg "is_whole" sIsWhole ["value"]
  d_is_between : Def K mg "is_between" sIsBetween ["value", "least", "most"]
  d_is_word : Def K mg "is_word" sIsWord ["value"]
  d_are_registers : Def K mg "are_registers" sAreRegs ["value"]
  d_is_row : Def K mg "is_row" sIsRow ["row", "registers", "size", "end"]
  d__is_part : Def K mg "_is_part" sIsPart ["part", "name", "registers", "size", "end"]
  d_ask_program : Def K mg "ask_program" sAskP ["program"]
  d_are_values : Def K mg "are_values" sAreV ["values"]
  d_without_zeros : Def K mg "without_zeros" sWoZ ["values"]
  d_format_program : Def K mg "format_program" sFormatP ["program"]
  d__line_of : Def K mg "_line_of" sLineOf ["parts"]
  d_parse_program : Def K mg "parse_program" sParseP ["text"]
  d__read_program : Def K mg "_read_program" sReadP ["lines"]
  d__part_of : Def K mg "_part_of" sPartOf ["word"]
  d_format_data : Def K mg "format_data" sFormatD ["data"]
  d_parse_data : Def K mg "parse_data" sParseD ["text"]
  d__law_numbers : Def K mg "_law_numbers" sNumbers ["cell", "salt", "sizes"]
  d__law_pool : Def K mg "_law_pool" sPool ["cell", "salt", "many"]
  d__law_draw : Def K mg "_law_draw" sDraw ["pool", "many"]
  d__law_pick : Def K mg "_law_pick" sPick ["pool", "some"]
  d__law_words : Def K mg "_law_words" sWords ["pool"]
  d__law_branch : Def K mg "_law_branch" sBranch ["pool", "index", "many", "words", "size"]
  d__law_row : Def K mg "_law_row" sRow ["pool", "index", "many", "words", "size", "kinds"]
  d__law_plan : Def K mg "_law_plan" sPlan ["pool", "top", "plain"]
  d__law_program : Def K mg "_law_program" sLProgram ["plan"]
  d__law_values : Def K mg "_law_values" sValues ["pool", "size", "top"]
  d__law_line : Def K mg "_law_line" sLLine ["row"]
  d__law_text : Def K mg "_law_text" sLText ["plan"]
  d__law_heard : Def K mg "_law_heard" sHeard ["way", "thing"]
  d__law_bent : Def K mg "_law_bent" sBent ["pool", "text"]
  d__law_reads : Def K mg "_law_reads" sReads ["text"]
  d__law_data_right : Def K mg "_law_data_right" sDataR ["pool", "some"]
  d__law_longest : Def K mg "_law_longest" sLongest []
structure MProg (K : PySem.W.Frag) (C : Addr) : Prop where
  m_classes : DefM K C "classes" "Program.classes" sCls ["self"]
  m_changed_at : DefM K C "_changed_at" "Program._changed_at" sChg ["self", "place"]
  m_eq : DefM K C "__eq__" "Program.__eq__" sEq ["self", "other"]
  m_len : DefM K C "__len__" "Program.__len__" sLen ["self"]
structure MDat (K : PySem.W.Frag) (C : Addr) : Prop where
  m_eq : DefM K C "__eq__" "Data.__eq__" sEqD ["self", "other"]
  m_len : DefM K C "__len__" "Data.__len__" sLenD ["self"]
  m_mul : DefM K C "__mul__" "Data.__mul__" sMulD ["self", "other"]
theorem methd_mk {K : PySem.W.Frag} {C f : Addr} {m q : Str} {st : Stmt} {ps : List Str} {oc : Value} {od an : Option Addr} {osl : Array (Option Value)} {kV dc pm cd ct : Value} (a : PySem.W.findIn K (.ref C) m = some (some (.ref f))) (i : PySem.W.isFn K (.ref f) = true) (kp : PySem.W.keepIn K (.ref f) = true)
    (l : K.lookup f = some ⟨oc, od, .func (PySem.W.fnOf m q (defArgs st) (defBody st) (defScope st) .none kV dc pm an cd ct), osl⟩) (c : PySem.W.codeIn K cd q = true)
    (hb : ∀ (kV doc pm : Value) (an : Option Addr) (cdv ct : Value) (us : List Value), us.length = ps.length → bindArgs (PySem.W.fnOf m q (defArgs st) (defBody st) (defScope st) .none kV doc pm an cdv ct) ⟨us, []⟩ = pure (ps.zip us)) : DefM K C m q st ps :=
  ⟨f, _, fun_mk l c kp, ⟨a, i, kp⟩, (fun_mk l c kp).binds hb⟩
structure ProgX (K : PySem.W.Frag) (mg : Str → Option Value) (C fP : Addr) (fdP : FuncData) : Prop where
  gP : mg "Program" = some (.ref C)
  mkk : Mk K C fP
  pc : ProgC K C
  fp : FunD K "__init__" "Program.__init__" (defArgs sProgInit) (defBody sProgInit) (defScope sProgInit) [] [("values", .int 2)] fP fdP
  ic : IsC K C
structure DatX (K : PySem.W.Frag) (mg : Str → Option Value) (C fD gO : Addr) (gdO : FuncData) : Prop where
  gD : mg "Data" = some (.ref C)
  mkk : Mk K C fD
  dc : DatC K C
  fd : ∃ (doc pm cdv ct oc kV : Value) (an od : Option Addr) (osl : Array (Option Value)), K.lookup fD = some ⟨oc, od, .func (PySem.W.fnOf "__init__" "Data.__init__" (defArgs sDInit) (defBody sDInit) (defScope sDInit) .none kV doc pm an cdv ct), osl⟩ ∧ PySem.W.codeIn K cdv "Data.__init__" = true
  fo : L2.Fun K "of" "Data.of" sOf gO gdO
  of : ∃ mc p, ClX.CRead K C mc ∧ SMet K C mc "of" p gO
  ic : IsC K C
structure Cons (mg : Str → Option Value) : Prop where
  gL : ∃ k1, mg "LETTERS" = some (.str abc k1)
  gM : ∃ k2, mg "MOST_LETTERS" = some (.int 8 k2)
  gR : ∃ k3, mg "MOST_ROWS" = some (.int 24 k3)
  gE : ∃ k4, mg "_MESSAGE" = some (.str "the attribute value tells what this is about" k4)
  gV : ∃ k5, mg "MOST_VALUES" = some (.int 60 k5)
  gSi : ∃ k6, mg "_MOST_SIGNS" = some (.int 3000 k6)
  gNo : ∃ k7, mg "_NOTHING" = some (.str "-" k7)
  gDi : ∃ k8, mg "_DIGITS" = some (.str digs k8)
structure DatY (K : PySem.W.Frag) (mg : Str → Option Value) (C : Addr) : Prop where
  g : mg "Data" = some (.ref C)
  nd : NoD K C
  mulO : OpAll K C .Mult
structure ProY (K : PySem.W.Frag) (mg : Str → Option Value) (C : Addr) : Prop where
  g : mg "Program" = some (.ref C)
  nf : PySem.W.notFirst K C (.type "tuple") = true
  nd : NoD K C
/-- what the package's text gives -/
structure Env (K : PySem.W.Frag) (w : World) (mg : Str → Option Value) : Prop where
  D : Defs K mg
  B : Bl4 mg
  n_min : mg "min" = none
  n_repr : mg "repr" = none
  n_int : mg "int" = none
  FO : ∃ fo es n, FormsOk K w mg fo es n
  CO : Cons mg
  nV : mg "ValueError" = none
  vV : PySem.W.findCls K (.type "ValueError") (.type "type") "__init__" = some (.val (.builtin "ValueError.__init__"))
  ER : ∃ fI fdI cR cN cW cB cP cD cT cQ, L2.Fun K "__init__" "LanesError.__init__" sErrInit fI fdI ∧ Errs K mg fI cR cN cW cB ∧ ErrC K mg "BadProgram" cP fI ∧ ErrC K mg "BadData" cD fI ∧ ErrC K mg "BadText" cT fI ∧ mg "LanesError" = some (.ref cQ) ∧ PySem.W.exmOne K (.ref cR) (.ref cQ) = some true ∧ PySem.W.exmOne K (.ref cN) (.ref cQ) = some true ∧ PySem.W.exmOne K (.ref cW) (.ref cQ) = some true ∧ PySem.W.exmOne K (.ref cB) (.ref cQ) = some true ∧ PySem.W.exmOne K (.ref cP) (.ref cP) = some true ∧ PySem.W.exmOne K (.ref cD) (.ref cP) = some false ∧ PySem.W.exmOne K (.ref cD) (.ref cD) = some true ∧ PySem.W.exmOne K (.ref cT) (.ref cP) = some false ∧ PySem.W.exmOne K (.ref cT) (.ref cD) = some false ∧ PySem.W.exmOne K (.ref cT) (.ref cT) = some true
  PX : ∃ C fP fdP, ProgX K mg C fP fdP ∧ MProg K C
  DX : ∃ C fD gO gdO, DatX K mg C fD gO gdO ∧ MDat K C
  PY : ∃ C, ProY K mg C
  DY : ∃ C, DatY K mg C
theorem all_ok {P : Program} {w : World} {K : PySem.W.Frag} {mg : Str → Option Value} {base : Heap} {f : Addr} {fd : FuncData} (N : Env K w mg) (F : L2.Fun K "law" "law" sLaw23 f fd) : FnG P w K mg base CX0 12 f fd ["script"] (spLaw23 K) := by
  obtain ⟨fo, es, n, FO⟩ := N.FO
  obtain ⟨⟨k1, gL⟩, ⟨k2, gM⟩, ⟨k3, gR⟩, ⟨k4, gE⟩, ⟨k5, gV⟩, ⟨k6, gSi⟩, ⟨k7, gNo⟩, ⟨k8, gDi⟩⟩ := N.CO
  obtain ⟨fI, fdI, cR, cN, cW, cB, cP, cD, cT, cQ, FI, ER, EP, ED, ET, gRoot, xRQ, xNQ, xWQ, xBQ, xPP, xDP, xDD, xTP, xTD, xTT⟩ := N.ER
  obtain ⟨CP, fP, fdP, PX, MM⟩ := N.PX
  have pc := PX.pc
  obtain ⟨CD, fD, gO, gdO, DX, MDa⟩ := N.DX
  have dc := DX.dc
  obtain ⟨CP', PY⟩ := N.PY
  have eCP := PY.g.symm.trans PX.gP
  cases eCP
  obtain ⟨CD', DY⟩ := N.DY
  have eCD := DY.g.symm.trans DX.gD
  cases eCD
  have D := N.D
  have B := N.B
  have T3 : Bl3 mg := B.toBl3
  have T1 : Bl mg := T3.toBl2.toBl
  have T2 : Bl2 mg := T3.toBl2
  have bI : Binds K fdI ["self", "value"] [] := FI.binds (ps := ["self", "value"]) fun _ _ _ _ _ _ us hl => match us, hl with | [_, _], _ => rfl
  have e1 : FnOk P w K mg base CX0 1 fI fdI ["self", "value"] (spErr K) := c_errInit FI N.nV gE N.vV
  have bO : Binds K gdO ["values"] [] := DX.fo.binds (ps := ["values"]) fun _ _ _ _ _ _ us hl => match us, hl with | [_], _ => rfl
  have hk : [(("values" : Str), V.int 2)] ≠ [] := by simp
  obtain ⟨mv, kb⟩ := PX.fp.kbinds0 (ps := ["self", "rows", "registers", "values"]) 2 ["registers", "values"] [] (fun {α} us _ ws => us ++ ws) hk (fun q hq => nomatch hq) (fun r1 _ r3 => Vals.append r1 r3)
    (fun Da doc pm an cdv ct us mv ws l1 l2 l3 => match us, mv, ws, l1, l2, l3 with
      | [_, _], [], [_, _], _, _, _ => rfl)
  have c1 := c_isWhole (P := P) (w := w) (base := base) D.d_is_whole T2
  have c2 := c_isBetween (P := P) (w := w) (base := base) D.d_is_between T2
  have c3 := c_isWord (P := P) (w := w) (base := base) D.d_is_word T2 gL gM
  have c4 := c_areRegs D.d_are_registers T2 c3
  have c6 := c_isPart D.d__is_part T2 c2 c3
  have c5 := c_isRow D.d_is_row T2 FO c6
  have mC0 := c_cls (P := P) (w := w) (mg := mg) (base := base) MM.m_classes T2.n_range pc
  have mG0 := c_chg MM.m_changed_at T2.n_range pc mC0
  have cP' := c_progInit PX.fp T2 ER e1 bI gR c4 c2 c5 pc mG0
  have c7 := c_numbers (P := P) (w := w) (base := base) D.d__law_numbers T1
  have c8 := c_pool D.d__law_pool T1 c7
  have c9 := c_draw (P := P) (w := w) (K := K) (base := base) D.d__law_draw T1
  have c10 := c_pick D.d__law_pick T1 c9
  have c11 := c_words D.d__law_words T1 c9
  have c12 := c_branch D.d__law_branch T1 N.n_min c9 c10
  have c13 := c_row D.d__law_row T1 c9 c10 c12
  have c14 := c_plan D.d__law_plan T1 T2.n_tuple c9 c11 c13
  have c15 := c_lProgram D.d__law_program PX.gP PX.mkk pc kb cP'
  have cV := c_areV D.d_are_values T2 gV c2
  have cZ := c_woZ (P := P) (w := w) (base := base) D.d_without_zeros T2 T2.n_len
  obtain ⟨doc, pm, cdv, ct, oc, kV, an, od, osl, lk, hcd⟩ := DX.fd
  have FD := fn_DI (P := P) (w := w) (base := base) dc ED e1 bI cV cZ lk hcd (StX.bind_star1 (B := fun vs => bindArgs (PySem.W.fnOf "__init__" "Data.__init__" (defArgs sDInit) (defBody sDInit) (defScope sDInit) .none kV doc pm an cdv ct) ⟨vs, []⟩) (fun a => rfl) (fun a r rs => rfl))
  have MD : DatM P w K mg base CD cD := ⟨dc, DX.gD, fD, DX.mkk, FD⟩
  have cO := c_of DX.fo T2 MD ED e1 bI
  obtain ⟨mcO, pO, crO, smO⟩ := DX.of
  have cAs := c_askP D.d_ask_program B pc PX.gP PX.ic EP e1 bI
  have mEq := c_eq (P := P) (w := w) (base := base) MM.m_eq T2 pc PX.gP PX.ic
  have mLn := c_len (P := P) (w := w) (mg := mg) (base := base) MM.m_len T2 pc
  have dEq := c_eqD (P := P) (w := w) (base := base) MDa.m_eq T2 dc DX.gD DX.ic DY.nd
  have dLn := c_lenD (P := P) (w := w) (mg := mg) (base := base) MDa.m_len T2 dc
  have dMu := c_mulD MDa.m_mul T2 MD ED ER.N gV e1 bI c2
  obtain ⟨mcO, pO, crO, smO⟩ := DX.of
  have f1 := c_lineOf (P := P) (w := w) (base := base) D.d__line_of T2 T2.n_str gNo
  have f2 := c_formatP D.d_format_program pc cAs f1
  have f3 := c_partOf (P := P) (w := w) (base := base) D.d__part_of T2 gNo gDi
  have XL : ExmL K cQ cR cN cW cB := ⟨xRQ, xNQ, xWQ, xBQ⟩
  have f4 := c_readP D.d__read_program T2 PX.gP gRoot PX.mkk pc XL kb cP' f3
  have f5 := c_parseP D.d_parse_program B gSi ET e1 bI f4 f2
  have f6 := c_formatD D.d_format_data T2 T2.n_str dc DX.gD DX.ic gNo ED e1 bI dLn
  have f7 := c_parseD D.d_parse_data T2 gV gNo ET e1 bI DX.gD DX.mkk FD crO smO cO bO
  have l1 := c_lLine (P := P) (w := w) (base := base) D.d__law_line T2 T2.n_str
  have l2 := c_lText D.d__law_text T2 T2.n_str l1
  have X3 : Exm3 K cP cD cT := ⟨xPP, xDP, xDD, xTP, xTD, xTT⟩
  have l3 := c_heard D.d__law_heard N.n_repr EP ED ET X3 f2 f5 f6 f7
  have l4 := c_bent D.d__law_bent T2 c9 c10
  have l5 := c_reads D.d__law_reads N.n_repr pc l3 l2
  have l6 := c_dataR D.d__law_data_right B T2.n_str N.n_repr l3 DX.gD DX.mkk FD crO smO cO bO dEq dMu DY.mulO
  have l7 := c_longest D.d__law_longest B PX.gP PX.mkk pc PY.nf kb cP' f2 f5 l2 mEq mLn
  have l8 := c_lValues (P := P) (w := w) (K := K) (base := base) D.d__law_values B c9
  exact c_law23 F B N.n_repr ⟨c8, c14, c15, l8, l2, l3, l4, l5, l6, l7, mEq, pc, PY.nd, DY.nd⟩
theorem walk {l : PySem.W.OpenLaw} {q : Program} {loose : List Str} {XP : (Str → Option Value) → Heap → Prop} {YP : World → Heap → Prop} {d : DefRec} {K : Params → PySem.W.Frag} (hn : l.most = some 63) (hdf : d.params.defaults = []) (hY : ∀ (w : World) (h : Heap), YP w h → (K w.params).In h)
    (F : ∀ (w : World) (mg : Str → Option Value) (fa : Addr) (h : Heap), (K w.params).In h → h.Ns mainGlobals mg → mg d.name = some (.ref fa) →
      ∃ fd : FuncData, (∀ (s : Shared) (u : Value), BindsTo s fd ⟨[u], []⟩ [("script", u)]) ∧ ∀ base : Heap, (K w.params).In base → base.Ns mainGlobals mg → FnG l.prog w (K w.params) mg base CX0 12 fa fd ["script"] (spLaw23 (K w.params))) :
    PySem.W.WalkO q loose XP YP l.row.toRowW d [] (fun f vs => PySem.call f vs) :=
  walk_ofG (n := 63) (k := 12) (x := "script") (CX := fun _ => CX0) (sp := spLaw23) hn (by decide) hdf ⟨rfl, by decide, by decide⟩ hY F (fun _ _ a ns hl _ hS => ⟨a, ns, rfl, hl, hS, fun _ => rfl⟩) fun _ _ _ _ _ z => z
theorem fin {P : Program} {w : World} {K : PySem.W.Frag} {h : Heap} {mg : Str → Option Value} {fa : Addr} (KX : K.In h) (G : h.Ns mainGlobals mg) (hmg : mg "law" = some (.ref fa)) (N : Env K w mg)
    (LW : ∃ f fd, L2.Fun K "law" "law" sLaw23 f fd ∧ mg "law" = some (.ref f) ∧ ∀ (s : Shared) (u : Value), BindsTo s fd ⟨[u], []⟩ [("script", u)]) :
    ∃ fd : FuncData, (∀ (s : Shared) (u : Value), BindsTo s fd ⟨[u], []⟩ [("script", u)]) ∧ ∀ base : Heap, K.In base → base.Ns mainGlobals mg → FnG P w K mg base CX0 12 fa fd ["script"] (spLaw23 K) := by
  obtain ⟨f, fd, F, hf, hb⟩ := LW
  have e := hmg.symm.trans hf
  cases e
  exact ⟨fd, hb, fun base _ _ => all_ok N F⟩
theorem law_mk {K : PySem.W.Frag} {h : Heap} {mg : Str → Option Value} {f : Addr} {oc : Value} {od an : Option Addr} {osl : Array (Option Value)} {kV dc pm cd ct : Value} (X : K.In h) (G : h.Ns mainGlobals mg) (a : PySem.W.nsIn K mainGlobals "law" = some (some (.ref f)))
    (l : K.lookup f = some ⟨oc, od, .func (PySem.W.fnOf "law" "law" (defArgs sLaw23) (defBody sLaw23) (defScope sLaw23) .none kV dc pm an cd ct), osl⟩) (c : PySem.W.codeIn K cd "law" = true) (kp : PySem.W.keepIn K (.ref f) = true) :
    ∃ f fd, L2.Fun K "law" "law" sLaw23 f fd ∧ mg "law" = some (.ref f) ∧ ∀ (s : Shared) (u : Value), BindsTo s fd ⟨[u], []⟩ [("script", u)] :=
  ⟨f, _, fun_mk (st := sLaw23) l c kp, PySem.W.mg_of X G a, fun s v => .of_eq rfl⟩
theorem cons_mk {K : PySem.W.Frag} {h : Heap} {mg : Str → Option Value} {k1 k2 k3 k4 k5 k6 k7 k8 : Tok} (X : K.In h) (G : h.Ns mainGlobals mg) (a1 : PySem.W.nsIn K mainGlobals "LETTERS" = some (some (.str "abcdefghijklmnopqrstuvwxyz" k1))) (a2 : PySem.W.nsIn K mainGlobals "MOST_LETTERS" = some (some (.int 8 k2))) (a3 : PySem.W.nsIn K mainGlobals "MOST_ROWS" = some (some (.int 24 k3))) (a4 : PySem.W.nsIn K mainGlobals "_MESSAGE" = some (some (.str "the attribute value tells what this is about" k4))) (a5 : PySem.W.nsIn K mainGlobals "MOST_VALUES" = some (some (.int 60 k5))) (a6 : PySem.W.nsIn K mainGlobals "_MOST_SIGNS" = some (some (.int 3000 k6))) (a7 : PySem.W.nsIn K mainGlobals "_NOTHING" = some (some (.str "-" k7))) (a8 : PySem.W.nsIn K mainGlobals "_DIGITS" = some (some (.str "0123456789" k8))) : Cons mg :=
  ⟨⟨k1, PySem.W.mg_of X G a1⟩, ⟨k2, PySem.W.mg_of X G a2⟩, ⟨k3, PySem.W.mg_of X G a3⟩, ⟨k4, PySem.W.mg_of X G a4⟩, ⟨k5, PySem.W.mg_of X G a5⟩, ⟨k6, PySem.W.mg_of X G a6⟩, ⟨k7, PySem.W.mg_of X G a7⟩, ⟨k8, PySem.W.mg_of X G a8⟩⟩
theorem errs_mk {K : PySem.W.Frag} {h : Heap} {mg : Str → Option Value} {fI cR cN cW cB cP cD cT cQ : Addr} {oc : Value} {od an : Option Addr} {osl : Array (Option Value)} {kV dc pm cd ct : Value} (X : K.In h) (G : h.Ns mainGlobals mg)
    (xR : ErrC K mg "BadRegisters" cR fI) (xN : ErrC K mg "BadNumber" cN fI) (xW : ErrC K mg "BadRows" cW fI) (xB : ErrC K mg "BadRow" cB fI) (xP : ErrC K mg "BadProgram" cP fI) (xD : ErrC K mg "BadData" cD fI) (xT : ErrC K mg "BadText" cT fI) (aZ : PySem.W.nsIn K mainGlobals "LanesError" = some (some (.ref cQ))) (yQ : ErrX K cQ) (yP : ErrX K cP) (yD : ErrX K cD) (yT : ErrX K cT) (sRQ : PySem.W.subIn K (.ref cR) (.ref cQ) = some true) (sNQ : PySem.W.subIn K (.ref cN) (.ref cQ) = some true) (sWQ : PySem.W.subIn K (.ref cW) (.ref cQ) = some true) (sBQ : PySem.W.subIn K (.ref cB) (.ref cQ) = some true) (sPP : PySem.W.subIn K (.ref cP) (.ref cP) = some true) (sDP : PySem.W.subIn K (.ref cD) (.ref cP) = some false) (sDD : PySem.W.subIn K (.ref cD) (.ref cD) = some true) (sTP : PySem.W.subIn K (.ref cT) (.ref cP) = some false) (sTD : PySem.W.subIn K (.ref cT) (.ref cD) = some false) (sTT : PySem.W.subIn K (.ref cT) (.ref cT) = some true)
    (l : K.lookup fI = some ⟨oc, od, .func (PySem.W.fnOf "__init__" "LanesError.__init__" (defArgs sErrInit) (defBody sErrInit) (defScope sErrInit) .none kV dc pm an cd ct), osl⟩) (c : PySem.W.codeIn K cd "LanesError.__init__" = true) (kp : PySem.W.keepIn K (.ref fI) = true) :
    ∃ fI fdI cR cN cW cB cP cD cT cQ, L2.Fun K "__init__" "LanesError.__init__" sErrInit fI fdI ∧ Errs K mg fI cR cN cW cB ∧ ErrC K mg "BadProgram" cP fI ∧ ErrC K mg "BadData" cD fI ∧ ErrC K mg "BadText" cT fI ∧ mg "LanesError" = some (.ref cQ) ∧ PySem.W.exmOne K (.ref cR) (.ref cQ) = some true ∧ PySem.W.exmOne K (.ref cN) (.ref cQ) = some true ∧ PySem.W.exmOne K (.ref cW) (.ref cQ) = some true ∧ PySem.W.exmOne K (.ref cB) (.ref cQ) = some true ∧ PySem.W.exmOne K (.ref cP) (.ref cP) = some true ∧ PySem.W.exmOne K (.ref cD) (.ref cP) = some false ∧ PySem.W.exmOne K (.ref cD) (.ref cD) = some true ∧ PySem.W.exmOne K (.ref cT) (.ref cP) = some false ∧ PySem.W.exmOne K (.ref cT) (.ref cD) = some false ∧ PySem.W.exmOne K (.ref cT) (.ref cT) = some true :=
  ⟨fI, _, cR, cN, cW, cB, cP, cD, cT, cQ, fun_mk (st := sErrInit) l c kp, ⟨xR, xN, xW, xB⟩, xP, xD, xT, PySem.W.mg_of X G aZ, exmX yQ sRQ, exmX yQ sNQ, exmX yQ sWQ, exmX yQ sBQ, exmX yP sPP, exmX yP sDP, exmX yD sDD, exmX yP sTP, exmX yD sTD, exmX yT sTT⟩
theorem kit_no {K : PySem.W.Frag} {C : Addr} (T : String) (h2 : PySem.W.isClsIn K C = true) (h3 : PySem.W.typeIn K (.ref C) = some (.type "type")) (h4 : PySem.W.subIn K (.type T) (.ref C) = some false) : PySem.W.kitOne K (.type T) (.ref C) = some false := by
  have e2 : ((PySem.W.clsIn K C).isSome && PySem.W.typeIn K (.ref C) == some (.type "type")) = true := by
    have e3 : (PySem.W.clsIn K C).isSome = true := h2
    rw [e3, h3]
    rfl
  show (if (Value.type T == Value.ref C) = true then some true else if ((PySem.W.clsIn K C).isSome && PySem.W.typeIn K (.ref C) == some (.type "type")) = true then PySem.W.subIn K (.type T) (.ref C) else none) = some false
  rw [if_neg (by simp), if_pos e2]
  exact h4
theorem prog_mk {K : PySem.W.Frag} {h : Heap} {mg : Str → Option Value} {C f : Addr} {oc : Value} {od an : Option Addr} {osl : Array (Option Value)} {dc pm cd ct : Value} {Dk : Addr} {tk : Tok} (X : K.In h) (G : h.Ns mainGlobals mg) (aP : PySem.W.nsIn K mainGlobals "Program" = some (some (.ref C)))
    (mk : PySem.W.makesIn K C = true) (a1 : PySem.W.findIn K (.ref C) "__init__" = some (some (.ref f))) (i1 : PySem.W.isFn K (.ref f) = true) (kc : PySem.W.keepIn K (.ref C) = true)
    (pg : PySem.W.plainGet K C Str.empty = true) (hd : PySem.W.hasDictIn K C = true) (po : PySem.W.plainOver K C = true) (sa : PySem.W.findIn K (.ref C) "__setattr__" = some (some (.builtin "object.__setattr__")))
    (n1 : PySem.W.findIn K (.ref C) "registers" = some none) (n2 : PySem.W.findIn K (.ref C) "size" = some none) (n3 : PySem.W.findIn K (.ref C) "rows" = some none) (n4 : PySem.W.findIn K (.ref C) "end" = some none) (n5 : PySem.W.findIn K (.ref C) "places" = some none) (n6 : PySem.W.findIn K (.ref C) "changed" = some none)
    (l : K.lookup f = some ⟨oc, od, .func (PySem.W.fnOf "__init__" "Program.__init__" (defArgs sProgInit) (defBody sProgInit) (defScope sProgInit) .none (.ref Dk) dc pm an cd ct), osl⟩) (c : PySem.W.codeIn K cd "Program.__init__" = true) (kp : PySem.W.keepIn K (.ref f) = true)
    (kw2 : PySem.W.nsIn K Dk "values" = some (some (.int 2 tk))) (ic : IsC K C) : ∃ fdP, ProgX K mg C f fdP :=
  ⟨_, PySem.W.mg_of X G aP, ⟨mk, a1, i1, kc⟩, ⟨⟨pg, hd, po, sa⟩, n1, n2, n3, n4, n5, n6⟩, ⟨⟨oc, od, .none, .ref Dk, dc, pm, an, cd, ct, osl, rfl, l, c, .inl ⟨rfl, rfl⟩, .inr ⟨Dk, rfl, fun q hq => by
    rw [List.mem_singleton.mp hq]
    exact ⟨_, kw2, ⟨tk, rfl⟩⟩⟩⟩, kp⟩, ic⟩
theorem bothProg {K : PySem.W.Frag} {mg : Str → Option Value} {C f : Addr} (h : ∃ fd, ProgX K mg C f fd) (m : MProg K C) : ∃ C f fd, ProgX K mg C f fd ∧ MProg K C := by
  obtain ⟨fd, h⟩ := h
  exact ⟨C, f, fd, h, m⟩
theorem dat_mk {K : PySem.W.Frag} {h : Heap} {mg : Str → Option Value} {C fD gO pO : Addr} {oc oc2 : Value} {od an od2 an2 : Option Addr} {osl osl2 : Array (Option Value)} {kV dc pm cd ct kV2 dc2 pm2 cd2 ct2 : Value} {rest : List Value} (X : K.In h) (G : h.Ns mainGlobals mg) (aP : PySem.W.nsIn K mainGlobals "Data" = some (some (.ref C)))
    (mk : PySem.W.makesIn K C = true) (a1 : PySem.W.findIn K (.ref C) "__init__" = some (some (.ref fD))) (i1' : PySem.W.isFn K (.ref fD) = true) (kc : PySem.W.keepIn K (.ref C) = true)
    (pg : PySem.W.plainGet K C Str.empty = true) (hd : PySem.W.hasDictIn K C = true) (po : PySem.W.plainOver K C = true) (sa : PySem.W.findIn K (.ref C) "__setattr__" = some (some (.builtin "object.__setattr__")))
    (n1 : PySem.W.findIn K (.ref C) "digits" = some none)
    (l : K.lookup fD = some ⟨oc, od, .func (PySem.W.fnOf "__init__" "Data.__init__" (defArgs sDInit) (defBody sDInit) (defScope sDInit) .none kV dc pm an cd ct), osl⟩) (c : PySem.W.codeIn K cd "Data.__init__" = true)
    (rd : PySem.W.readsIn K C (.type "type") = true) (ga : PySem.W.specialIn K (.ref C) "__getattribute__" = some (some (.builtin "type.__getattribute__"))) (at_ : PySem.W.findCls K (.ref C) (.type "type") "of" = some (.get (.builtin "staticmethod.__get__") (.ref pO) .none (.ref C))) (rc : PySem.W.recIn K pO "staticmethod" = some (.ref gO :: rest)) (kO : PySem.W.keepIn K (.ref gO) = true)
    (l2 : K.lookup gO = some ⟨oc2, od2, .func (PySem.W.fnOf "of" "Data.of" (defArgs sOf) (defBody sOf) (defScope sOf) .none kV2 dc2 pm2 an2 cd2 ct2), osl2⟩) (c2 : PySem.W.codeIn K cd2 "Data.of" = true)
    (ic : IsC K C) : ∃ gdO, DatX K mg C fD gO gdO :=
  ⟨_, PySem.W.mg_of X G aP, ⟨mk, a1, i1', kc⟩, ⟨⟨pg, hd, po, sa⟩, n1⟩, ⟨_, _, _, _, _, _, _, _, _, l, c⟩, fun_mk (st := sOf) l2 c2 kO, ⟨_, pO, ⟨rd, ga⟩, ⟨at_, ⟨rest, rc⟩, kO⟩⟩, ic⟩
theorem bothDat {K : PySem.W.Frag} {mg : Str → Option Value} {C f g : Addr} (h : ∃ gd, DatX K mg C f g gd) (m : MDat K C) : ∃ C fD gO gdO, DatX K mg C fD gO gdO ∧ MDat K C := by
  obtain ⟨gd, h⟩ := h
  exact ⟨C, f, g, gd, h, m⟩
theorem opc_mul {K : PySem.W.Frag} {C g : Addr} (f : PySem.W.selfFirst K C = true) (h : PySem.W.findIn K (.ref C) "__rmul__" = some (some (.ref g))) : OpC K C .Mult := ⟨f, _, h, .inr ⟨_, rfl⟩⟩
theorem opt_mul {K : PySem.W.Frag} {C : Addr} {T : String} {fo ro : Option Value} (a : PySem.W.findIn K (.type T) "__mul__" = some fo) (b : PySem.W.findIn K (.type T) "__rmul__" = some ro) (s : PySem.W.subIn K (.type T) (.ref C) = some false) : OpT K C .Mult T := ⟨⟨_, _, a, b⟩, s⟩
theorem daty_mk {K : PySem.W.Frag} {h : Heap} {mg : Str → Option Value} {C : Addr} (X : K.In h) (G : h.Ns mainGlobals mg) (aP : PySem.W.nsIn K mainGlobals "Data" = some (some (.ref C))) (nd : NoD K C) (mu : OpAll K C .Mult) : ∃ C, DatY K mg C := ⟨C, PySem.W.mg_of X G aP, nd, mu⟩
theorem proy_mk {K : PySem.W.Frag} {h : Heap} {mg : Str → Option Value} {C : Addr} (X : K.In h) (G : h.Ns mainGlobals mg) (aP : PySem.W.nsIn K mainGlobals "Program" = some (some (.ref C))) (nf : PySem.W.notFirst K C (.type "tuple") = true) (nd : NoD K C) : ∃ C, ProY K mg C := ⟨C, PySem.W.mg_of X G aP, nf, nd⟩

end YY

open PySem PySem.W PyProof.Rows
set_option maxRecDepth 100000 in
set_option maxHeartbeats 0 in
theorem PySem.Challenge.cw_partedlanes_k23_texts_read_back_and_refu_holds : PySem.Challenge.rw_partedlanes_k23_texts_read_back_and_refu.Holds := by
  refine k_top_head ?_
  k_fill
  refine YY.walk (l := PySem.Challenge.rw_partedlanes_k23_texts_read_back_and_refu) rfl rfl (fun w h Y => PySem.W.kIn_of Y) ?F
  case F =>
    intro w mg fa h KX G hmg
    refine' YY.fin KX G hmg ?eEnv ?eLaw
    case eLaw =>
      refine' YY.law_mk KX G ?a ?l ?c ?k
      (case a => k_is); (case l => k_is); (case c => k_is); (case k => k_is)
    case eEnv =>
      refine' ⟨?eD, ?eT, ?en_min, ?en_repr, ?en_int, ?eFO, ?eCO, ?enV, ?evV, ?eER, ?ePX, ?eDX, ?ePY, ?eDY⟩
      case eD =>
        constructor
        · refine' XX.def_mk (x := "is_whole") (st := YY.sIsWhole) KX G ?a ?l ?c ?k (fun _ _ _ _ _ _ us hl => match us, hl with | [_], _ => rfl)
          (case a => k_is); (case l => k_is); (case c => k_is); (case k => k_is)
        · refine' XX.def_mk (x := "is_between") (st := YY.sIsBetween) KX G ?a ?l ?c ?k (fun _ _ _ _ _ _ us hl => match us, hl with | [_, _, _], _ => rfl)
          (case a => k_is); (case l => k_is); (case c => k_is); (case k => k_is)
        · refine' XX.def_mk (x := "is_word") (st := YY.sIsWord) KX G ?a ?l ?c ?k (fun _ _ _ _ _ _ us hl => match us, hl with | [_], _ => rfl)
          (case a => k_is); (case l => k_is); (case c => k_is); (case k => k_is)
        · refine' XX.def_mk (x := "are_registers") (st := YY.sAreRegs) KX G ?a ?l ?c ?k (fun _ _ _ _ _ _ us hl => match us, hl with | [_], _ => rfl)
          (case a => k_is); (case l => k_is); (case c => k_is); (case k => k_is)
        · refine' XX.def_mk (x := "is_row") (st := YY.sIsRow) KX G ?a ?l ?c ?k (fun _ _ _ _ _ _ us hl => match us, hl with | [_, _, _, _], _ => rfl)
          (case a => k_is); (case l => k_is); (case c => k_is); (case k => k_is)
        · refine' XX.def_mk (x := "_is_part") (st := YY.sIsPart) KX G ?a ?l ?c ?k (fun _ _ _ _ _ _ us hl => match us, hl with | [_, _, _, _, _], _ => rfl)
          (case a => k_is); (case l => k_is); (case c => k_is); (case k => k_is)
        · refine' XX.def_mk (x := "ask_program") (st := YY.sAskP) KX G ?a ?l ?c ?k (fun _ _ _ _ _ _ us hl => match us, hl with | [_], _ => rfl)
          (case a => k_is); (case l => k_is); (case c => k_is); (case k => k_is)
        · refine' XX.def_mk (x := "are_values") (st := YY.sAreV) KX G ?a ?l ?c ?k (fun _ _ _ _ _ _ us hl => match us, hl with | [_], _ => rfl)
          (case a => k_is); (case l => k_is); (case c => k_is); (case k => k_is)
        · refine' XX.def_mk (x := "without_zeros") (st := YY.sWoZ) KX G ?a ?l ?c ?k (fun _ _ _ _ _ _ us hl => match us, hl with | [_], _ => rfl)
          (case a => k_is); (case l => k_is); (case c => k_is); (case k => k_is)
        · refine' XX.def_mk (x := "format_program") (st := YY.sFormatP) KX G ?a ?l ?c ?k (fun _ _ _ _ _ _ us hl => match us, hl with | [_], _ => rfl)
          (case a => k_is); (case l => k_is); (case c => k_is); (case k => k_is)
        · refine' XX.def_mk (x := "_line_of") (st := YY.sLineOf) KX G ?a ?l ?c ?k (fun _ _ _ _ _ _ us hl => match us, hl with | [_], _ => rfl)
          (case a => k_is); (case l => k_is); (case c => k_is); (case k => k_is)
        · refine' XX.def_mk (x := "parse_program") (st := YY.sParseP) KX G ?a ?l ?c ?k (fun _ _ _ _ _ _ us hl => match us, hl with | [_], _ => rfl)
          (case a => k_is); (case l => k_is); (case c => k_is); (case k => k_is)
        · refine' XX.def_mk (x := "_read_program") (st := YY.sReadP) KX G ?a ?l ?c ?k (fun _ _ _ _ _ _ us hl => match us, hl with | [_], _ => rfl)
          (case a => k_is); (case l => k_is); (case c => k_is); (case k => k_is)
        · refine' XX.def_mk (x := "_part_of") (st := YY.sPartOf) KX G ?a ?l ?c ?k (fun _ _ _ _ _ _ us hl => match us, hl with | [_], _ => rfl)
          (case a => k_is); (case l => k_is); (case c => k_is); (case k => k_is)
        · refine' XX.def_mk (x := "format_data") (st := YY.sFormatD) KX G ?a ?l ?c ?k (fun _ _ _ _ _ _ us hl => match us, hl with | [_], _ => rfl)
          (case a => k_is); (case l => k_is); (case c => k_is); (case k => k_is)
        · refine' XX.def_mk (x := "parse_data") (st := YY.sParseD) KX G ?a ?l ?c ?k (fun _ _ _ _ _ _ us hl => match us, hl with | [_], _ => rfl)
          (case a => k_is); (case l => k_is); (case c => k_is); (case k => k_is)
        · refine' XX.def_mk (x := "_law_numbers") (st := YY.sNumbers) KX G ?a ?l ?c ?k (fun _ _ _ _ _ _ us hl => match us, hl with | [_, _, _], _ => rfl)
          (case a => k_is); (case l => k_is); (case c => k_is); (case k => k_is)
        · refine' XX.def_mk (x := "_law_pool") (st := YY.sPool) KX G ?a ?l ?c ?k (fun _ _ _ _ _ _ us hl => match us, hl with | [_, _, _], _ => rfl)
          (case a => k_is); (case l => k_is); (case c => k_is); (case k => k_is)
        · refine' XX.def_mk (x := "_law_draw") (st := YY.sDraw) KX G ?a ?l ?c ?k (fun _ _ _ _ _ _ us hl => match us, hl with | [_, _], _ => rfl)
          (case a => k_is); (case l => k_is); (case c => k_is); (case k => k_is)
        · refine' XX.def_mk (x := "_law_pick") (st := YY.sPick) KX G ?a ?l ?c ?k (fun _ _ _ _ _ _ us hl => match us, hl with | [_, _], _ => rfl)
          (case a => k_is); (case l => k_is); (case c => k_is); (case k => k_is)
        · refine' XX.def_mk (x := "_law_words") (st := YY.sWords) KX G ?a ?l ?c ?k (fun _ _ _ _ _ _ us hl => match us, hl with | [_], _ => rfl)
          (case a => k_is); (case l => k_is); (case c => k_is); (case k => k_is)
        · refine' XX.def_mk (x := "_law_branch") (st := YY.sBranch) KX G ?a ?l ?c ?k (fun _ _ _ _ _ _ us hl => match us, hl with | [_, _, _, _, _], _ => rfl)
          (case a => k_is); (case l => k_is); (case c => k_is); (case k => k_is)
        · refine' XX.def_mk (x := "_law_row") (st := YY.sRow) KX G ?a ?l ?c ?k (fun _ _ _ _ _ _ us hl => match us, hl with | [_, _, _, _, _, _], _ => rfl)
          (case a => k_is); (case l => k_is); (case c => k_is); (case k => k_is)
        · refine' XX.def_mk (x := "_law_plan") (st := YY.sPlan) KX G ?a ?l ?c ?k (fun _ _ _ _ _ _ us hl => match us, hl with | [_, _, _], _ => rfl)
          (case a => k_is); (case l => k_is); (case c => k_is); (case k => k_is)
        · refine' XX.def_mk (x := "_law_program") (st := YY.sLProgram) KX G ?a ?l ?c ?k (fun _ _ _ _ _ _ us hl => match us, hl with | [_], _ => rfl)
          (case a => k_is); (case l => k_is); (case c => k_is); (case k => k_is)
        · refine' XX.def_mk (x := "_law_values") (st := YY.sValues) KX G ?a ?l ?c ?k (fun _ _ _ _ _ _ us hl => match us, hl with | [_, _, _], _ => rfl)
          (case a => k_is); (case l => k_is); (case c => k_is); (case k => k_is)
        · refine' XX.def_mk (x := "_law_line") (st := YY.sLLine) KX G ?a ?l ?c ?k (fun _ _ _ _ _ _ us hl => match us, hl with | [_], _ => rfl)
          (case a => k_is); (case l => k_is); (case c => k_is); (case k => k_is)
        · refine' XX.def_mk (x := "_law_text") (st := YY.sLText) KX G ?a ?l ?c ?k (fun _ _ _ _ _ _ us hl => match us, hl with | [_], _ => rfl)
          (case a => k_is); (case l => k_is); (case c => k_is); (case k => k_is)
        · refine' XX.def_mk (x := "_law_heard") (st := YY.sHeard) KX G ?a ?l ?c ?k (fun _ _ _ _ _ _ us hl => match us, hl with | [_, _], _ => rfl)
          (case a => k_is); (case l => k_is); (case c => k_is); (case k => k_is)
        · refine' XX.def_mk (x := "_law_bent") (st := YY.sBent) KX G ?a ?l ?c ?k (fun _ _ _ _ _ _ us hl => match us, hl with | [_, _], _ => rfl)
          (case a => k_is); (case l => k_is); (case c => k_is); (case k => k_is)
        · refine' XX.def_mk (x := "_law_reads") (st := YY.sReads) KX G ?a ?l ?c ?k (fun _ _ _ _ _ _ us hl => match us, hl with | [_], _ => rfl)
          (case a => k_is); (case l => k_is); (case c => k_is); (case k => k_is)
        · refine' XX.def_mk (x := "_law_data_right") (st := YY.sDataR) KX G ?a ?l ?c ?k (fun _ _ _ _ _ _ us hl => match us, hl with | [_, _], _ => rfl)
          (case a => k_is); (case l => k_is); (case c => k_is); (case k => k_is)
        · refine' XX.def_mk (x := "_law_longest") (st := YY.sLongest) KX G ?a ?l ?c ?k (fun _ _ _ _ _ _ us hl => match us, hl with | [], _ => rfl)
          (case a => k_is); (case l => k_is); (case c => k_is); (case k => k_is)
      case eT =>
        refine ⟨⟨⟨⟨PySem.W.mg_none_of KX G ?_, PySem.W.mg_none_of KX G ?_, PySem.W.mg_none_of KX G ?_, PySem.W.mg_none_of KX G ?_⟩, PySem.W.mg_none_of KX G ?_, PySem.W.mg_none_of KX G ?_, PySem.W.mg_none_of KX G ?_, PySem.W.mg_none_of KX G ?_, PySem.W.mg_none_of KX G ?_, PySem.W.mg_none_of KX G ?_, PySem.W.mg_none_of KX G ?_, PySem.W.mg_none_of KX G ?_⟩, PySem.W.mg_none_of KX G ?_, PySem.W.mg_none_of KX G ?_⟩, PySem.W.mg_none_of KX G ?_⟩
        all_goals k_is
      case enV =>
        refine PySem.W.mg_none_of KX G ?_
        k_is
      case en_min =>
        refine PySem.W.mg_none_of KX G ?_
        k_is
      case en_repr =>
        refine PySem.W.mg_none_of KX G ?_
        k_is
      case en_int =>
        refine PySem.W.mg_none_of KX G ?_
        k_is
      case evV => k_is
      case eCO =>
        refine' YY.cons_mk KX G ?a1 ?a2 ?a3 ?a4 ?a5 ?a6 ?a7 ?a8
        (case a1 => k_is); (case a2 => k_is); (case a3 => k_is); (case a4 => k_is); (case a5 => k_is); (case a6 => k_is); (case a7 => k_is); (case a8 => k_is)
      case eER =>
        refine' YY.errs_mk KX G ?eeR ?eeN ?eeW ?eeB ?eeP ?eeD ?eeT ?eaZ ?eyQ ?eyP ?eyD ?eyT ?esRQ ?esNQ ?esWQ ?esBQ ?esPP ?esDP ?esDD ?esTP ?esTD ?esTT ?el ?ec ?ek
        (case eaZ => k_is)
        case eeR =>
          refine' YY.err_mk KX G ?aCR ?xLR ?bmrR ?saR ?gaR ?ggR ?noR ?iniR ?tIR ?kCR ?eCR ?tCR ?hCR
          (case aCR => k_is); (case xLR => k_is); (case bmrR => decide +kernel); (case saR => k_is); (case gaR => k_is); (case ggR => k_is); (case noR => k_is); (case iniR => k_is); (case tIR => k_is); (case kCR => k_is); (case eCR => k_is); (case tCR => k_is); (case hCR => k_is)
        case eeN =>
          refine' YY.err_mk KX G ?aCN ?xLN ?bmrN ?saN ?gaN ?ggN ?noN ?iniN ?tIN ?kCN ?eCN ?tCN ?hCN
          (case aCN => k_is); (case xLN => k_is); (case bmrN => decide +kernel); (case saN => k_is); (case gaN => k_is); (case ggN => k_is); (case noN => k_is); (case iniN => k_is); (case tIN => k_is); (case kCN => k_is); (case eCN => k_is); (case tCN => k_is); (case hCN => k_is)
        case eeW =>
          refine' YY.err_mk KX G ?aCW ?xLW ?bmrW ?saW ?gaW ?ggW ?noW ?iniW ?tIW ?kCW ?eCW ?tCW ?hCW
          (case aCW => k_is); (case xLW => k_is); (case bmrW => decide +kernel); (case saW => k_is); (case gaW => k_is); (case ggW => k_is); (case noW => k_is); (case iniW => k_is); (case tIW => k_is); (case kCW => k_is); (case eCW => k_is); (case tCW => k_is); (case hCW => k_is)
        case eeB =>
          refine' YY.err_mk KX G ?aCB ?xLB ?bmrB ?saB ?gaB ?ggB ?noB ?iniB ?tIB ?kCB ?eCB ?tCB ?hCB
          (case aCB => k_is); (case xLB => k_is); (case bmrB => decide +kernel); (case saB => k_is); (case gaB => k_is); (case ggB => k_is); (case noB => k_is); (case iniB => k_is); (case tIB => k_is); (case kCB => k_is); (case eCB => k_is); (case tCB => k_is); (case hCB => k_is)
        case eeP =>
          refine' YY.err_mk KX G ?aCP ?xLP ?bmrP ?saP ?gaP ?ggP ?noP ?iniP ?tIP ?kCP ?eCP ?tCP ?hCP
          (case aCP => k_is); (case xLP => k_is); (case bmrP => decide +kernel); (case saP => k_is); (case gaP => k_is); (case ggP => k_is); (case noP => k_is); (case iniP => k_is); (case tIP => k_is); (case kCP => k_is); (case eCP => k_is); (case tCP => k_is); (case hCP => k_is)
        case eeD =>
          refine' YY.err_mk KX G ?aCD ?xLD ?bmrD ?saD ?gaD ?ggD ?noD ?iniD ?tID ?kCD ?eCD ?tCD ?hCD
          (case aCD => k_is); (case xLD => k_is); (case bmrD => decide +kernel); (case saD => k_is); (case gaD => k_is); (case ggD => k_is); (case noD => k_is); (case iniD => k_is); (case tID => k_is); (case kCD => k_is); (case eCD => k_is); (case tCD => k_is); (case hCD => k_is)
        case eeT =>
          refine' YY.err_mk KX G ?aCT ?xLT ?bmrT ?saT ?gaT ?ggT ?noT ?iniT ?tIT ?kCT ?eCT ?tCT ?hCT
          (case aCT => k_is); (case xLT => k_is); (case bmrT => decide +kernel); (case saT => k_is); (case gaT => k_is); (case ggT => k_is); (case noT => k_is); (case iniT => k_is); (case tIT => k_is); (case kCT => k_is); (case eCT => k_is); (case tCT => k_is); (case hCT => k_is)
        (case eyQ => exact ⟨by k_is, by k_is, by k_is⟩)
        (case eyP => exact ⟨by k_is, by k_is, by k_is⟩)
        (case eyD => exact ⟨by k_is, by k_is, by k_is⟩)
        (case eyT => exact ⟨by k_is, by k_is, by k_is⟩)
        (case esRQ => k_is); (case esNQ => k_is); (case esWQ => k_is); (case esBQ => k_is); (case esPP => k_is); (case esDP => k_is); (case esDD => k_is); (case esTP => k_is); (case esTD => k_is); (case esTT => k_is)
        (case el => k_is); (case ec => k_is); (case ek => k_is)
      case eFO =>
        refine' ⟨_, _, _, YY.forms_mk KX G ?aF ?fl ?lit ?low ?fs1 ?fs2 ?fs3 ?fs4 ?fs5 ?fs6 ?fs7 ?fs8 ?fs9 ?fs10 ?fs11⟩
        (case aF => k_is); (case fl => k_is)
        (case lit => exact ⟨⟨_, _, rfl, rfl⟩, ⟨_, _, rfl, rfl⟩, ⟨_, _, rfl, rfl⟩, ⟨_, _, rfl, rfl⟩, ⟨_, _, rfl, rfl⟩, ⟨_, _, rfl, rfl⟩, ⟨_, _, rfl, rfl⟩, ⟨_, _, rfl, rfl⟩, ⟨_, _, rfl, rfl⟩, ⟨_, _, rfl, rfl⟩, ⟨_, _, rfl, rfl⟩, True.intro⟩)
        (case low => decide)
        all_goals
          refine' YY.sqT_K ?tl ?tv (by decide)
          (case tl => k_is)
          (case tv => repeat (first | exact .nil | refine .cons ⟨_, rfl⟩ ?_))
      case ePX =>
        refine' YY.bothProg ?hP ?mP
        case hP =>
          refine' YY.prog_mk KX G ?pa ?pb1 ?pb2 ?pb3 ?pb4 ?pc1 ?pc2 ?pc3 ?pc4 ?pn1 ?pn2 ?pn3 ?pn4 ?pn5 ?pn6 ?pl1 ?pl2 ?pl3 ?pkw ?pic
          (case pa => k_is); (case pb1 => k_is); (case pb2 => k_is); (case pb3 => k_is); (case pb4 => k_is); (case pc1 => k_is); (case pc2 => k_is); (case pc3 => k_is); (case pc4 => k_is); (case pn1 => k_is); (case pn2 => k_is); (case pn3 => k_is); (case pn4 => k_is); (case pn5 => k_is); (case pn6 => k_is); (case pl1 => k_is); (case pl2 => k_is); (case pl3 => k_is); (case pkw => k_is); (case pic => exact ⟨by k_is, by k_is, by k_is, by k_is, YY.kit_no "tuple" (by k_is) (by k_is) (by k_is)⟩)
        case mP =>
          constructor
          · refine' YY.methd_mk (m := "classes") (q := "Program.classes") (st := YY.sCls) ?ma1 ?mi1 ?mk1 ?ml1 ?mc1 (fun _ _ _ _ _ _ us hl => match us, hl with | [_], _ => rfl)
            (case ma1 => k_is); (case mi1 => k_is); (case mk1 => k_is); (case ml1 => k_is); (case mc1 => k_is)
          · refine' YY.methd_mk (m := "_changed_at") (q := "Program._changed_at") (st := YY.sChg) ?ma2 ?mi2 ?mk2 ?ml2 ?mc2 (fun _ _ _ _ _ _ us hl => match us, hl with | [_, _], _ => rfl)
            (case ma2 => k_is); (case mi2 => k_is); (case mk2 => k_is); (case ml2 => k_is); (case mc2 => k_is)
          · refine' YY.methd_mk (m := "__eq__") (q := "Program.__eq__") (st := YY.sEq) ?ma3 ?mi3 ?mk3 ?ml3 ?mc3 (fun _ _ _ _ _ _ us hl => match us, hl with | [_, _], _ => rfl)
            (case ma3 => k_is); (case mi3 => k_is); (case mk3 => k_is); (case ml3 => k_is); (case mc3 => k_is)
          · refine' YY.methd_mk (m := "__len__") (q := "Program.__len__") (st := YY.sLen) ?ma4 ?mi4 ?mk4 ?ml4 ?mc4 (fun _ _ _ _ _ _ us hl => match us, hl with | [_], _ => rfl)
            (case ma4 => k_is); (case mi4 => k_is); (case mk4 => k_is); (case ml4 => k_is); (case mc4 => k_is)
      case eDX =>
        refine' YY.bothDat ?hDx ?mDx
        case hDx =>
          refine' YY.dat_mk KX G ?dax ?db1x ?db2x ?db3x ?db4x ?dc1x ?dc2x ?dc3x ?dc4x ?dnx ?dlx ?dccx ?drdx ?dgax ?datx ?drcx ?dkOx ?dlox ?dcox ?dicx
          (case dax => k_is); (case db1x => k_is); (case db2x => k_is); (case db3x => k_is); (case db4x => k_is); (case dc1x => k_is); (case dc2x => k_is); (case dc3x => k_is); (case dc4x => k_is); (case dnx => k_is); (case dlx => k_is); (case dccx => k_is); (case drdx => k_is); (case dgax => k_is); (case datx => k_is); (case drcx => k_is); (case dkOx => k_is); (case dlox => k_is); (case dcox => k_is); (case dicx => exact ⟨by k_is, by k_is, by k_is, by k_is, YY.kit_no "tuple" (by k_is) (by k_is) (by k_is)⟩)
        case mDx =>
          constructor
          · refine' YY.methd_mk (m := "__eq__") (q := "Data.__eq__") (st := YY.sEqD) ?ma5 ?mi5 ?mk5 ?ml5 ?mc5 (fun _ _ _ _ _ _ us hl => match us, hl with | [_, _], _ => rfl)
            (case ma5 => k_is); (case mi5 => k_is); (case mk5 => k_is); (case ml5 => k_is); (case mc5 => k_is)
          · refine' YY.methd_mk (m := "__len__") (q := "Data.__len__") (st := YY.sLenD) ?ma6 ?mi6 ?mk6 ?ml6 ?mc6 (fun _ _ _ _ _ _ us hl => match us, hl with | [_], _ => rfl)
            (case ma6 => k_is); (case mi6 => k_is); (case mk6 => k_is); (case ml6 => k_is); (case mc6 => k_is)
          · refine' YY.methd_mk (m := "__mul__") (q := "Data.__mul__") (st := YY.sMulD) ?ma7 ?mi7 ?mk7 ?ml7 ?mc7 (fun _ _ _ _ _ _ us hl => match us, hl with | [_, _], _ => rfl)
            (case ma7 => k_is); (case mi7 => k_is); (case mk7 => k_is); (case ml7 => k_is); (case mc7 => k_is)
      case ePY =>
        refine' YY.proy_mk KX G ?zpa ?zpn ?zpd
        (case zpa => k_is); (case zpn => k_is); (case zpd => exact ⟨YY.kit_no "NoneType" (by k_is) (by k_is) (by k_is), YY.kit_no "bool" (by k_is) (by k_is) (by k_is), YY.kit_no "int" (by k_is) (by k_is) (by k_is), YY.kit_no "str" (by k_is) (by k_is) (by k_is), YY.kit_no "list" (by k_is) (by k_is) (by k_is), YY.kit_no "tuple" (by k_is) (by k_is) (by k_is), YY.kit_no "dict" (by k_is) (by k_is) (by k_is)⟩)
      case eDY =>
        refine' YY.daty_mk KX G ?zda ?zdn ?zdm
        (case zda => k_is); (case zdn => exact ⟨YY.kit_no "NoneType" (by k_is) (by k_is) (by k_is), YY.kit_no "bool" (by k_is) (by k_is) (by k_is), YY.kit_no "int" (by k_is) (by k_is) (by k_is), YY.kit_no "str" (by k_is) (by k_is) (by k_is), YY.kit_no "list" (by k_is) (by k_is) (by k_is), YY.kit_no "tuple" (by k_is) (by k_is) (by k_is), YY.kit_no "dict" (by k_is) (by k_is) (by k_is)⟩)
        case zdm =>
          refine' ⟨YY.opc_mul ?zoa ?zob, YY.opt_mul (T := "NoneType") ?zca0 ?zcb0 ?zcc0, YY.opt_mul (T := "bool") ?zca1 ?zcb1 ?zcc1, YY.opt_mul (T := "int") ?zca2 ?zcb2 ?zcc2, YY.opt_mul (T := "str") ?zca3 ?zcb3 ?zcc3, YY.opt_mul (T := "list") ?zca4 ?zcb4 ?zcc4, YY.opt_mul (T := "tuple") ?zca5 ?zcb5 ?zcc5, YY.opt_mul (T := "dict") ?zca6 ?zcb6 ?zcc6⟩
          (case zoa => k_is); (case zob => k_is); (case zca0 => k_is); (case zcb0 => k_is); (case zcc0 => k_is); (case zca1 => k_is); (case zcb1 => k_is); (case zcc1 => k_is); (case zca2 => k_is); (case zcb2 => k_is); (case zcc2 => k_is); (case zca3 => k_is); (case zcb3 => k_is); (case zcc3 => k_is); (case zca4 => k_is); (case zcb4 => k_is); (case zcc4 => k_is); (case zca5 => k_is); (case zcb5 => k_is); (case zcc5 => k_is); (case zca6 => k_is); (case zcb6 => k_is); (case zcc6 => k_is)
