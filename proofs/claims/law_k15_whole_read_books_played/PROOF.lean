import PyProof.Rows.All
import Wide.All
import OpenK.AllK
import Wide.FinOn
import HandS.ForMost
import HandS.Flow
import HandS.IsInst
import HandS.Style
import HandS.More
import HandS.Strs
import HandS.Zip
import HandS.Codes
import HandS.Defaults
import HandS.MakeKw
import HandS.TupAny
import HandS.TupMul
import HandS.Wide
import HandS.Sort
import HandS.SortInts
import HandS.NoneIn
import HandS.Conv
import HandS.Walk
import HandS.Head0
import HandS.Head1
import HandS.Head2
import HandS.HeadEnd
import HandS.HeadHook1
import HandS.HeadHook2
import HandS.Star
import HandS.SortOrd
import HandS.TryOnly
import PyProof.EqAt
import HandS.MakeKwOnly
import HandS.SortKw
import HandS.OwnEq
import HandS.HeadHook3
import KE.GoesEnumKw
import PySem.Challenge.RW_lockerwall_k15_whole_read_books_played
set_option Elab.async false
set_option linter.all false
set_option maxRecDepth 100000
namespace My
open PySem PySem.Spec PyProof.Rows L2
/-! ### tables of the written part by address -/
def tupAt (K : PySem.W.Frag) (a : Addr) (vs : List V) : Bool := match K.lookup a with
  | some ⟨.type c, none, .seq its _, _⟩ => decide (c = "tuple") && (decide (its.size ≤ sizeLine) && He.relAll vs its.toList)
  | _ => false
theorem tupAt_ex {K : PySem.W.Frag} {a : Addr} {vs : List V} (h : tupAt K a vs = true) : ∃ (o : Obj) (its : Array Value) (n : Nat), K.lookup a = some o ∧ o.cls = .type "tuple" ∧ o.dict = none ∧ o.data = .seq its n ∧ its.size ≤ sizeLine ∧ Vals vs its.toList := by
  unfold tupAt at h
  cases q : K.lookup a with
  | none =>
    rw [q] at h
    cases h
  | some o =>
    obtain ⟨oc, od, dt, osl⟩ := o
    rw [q] at h
    cases oc with
    | type c =>
      cases od with
      | none =>
        cases dt with
        | seq its n =>
          obtain ⟨h1, h2⟩ := He.ba (show (decide (c = "tuple") && (decide (its.size ≤ sizeLine) && He.relAll vs its.toList)) = true from h)
          obtain ⟨h3, h4⟩ := He.ba h2
          exact ⟨_, its, n, rfl, congrArg Value.type (of_decide_eq_true h1), rfl, rfl, of_decide_eq_true h3, He.relAll_ok h4⟩
        | _ => cases h
      | some d => cases dt <;> cases h
    | _ => cases od <;> cases dt <;> cases h
theorem tupAt_ok {K : PySem.W.Frag} {a : Addr} {vs : List V} (h : tupAt K a vs = true) (H : Hp) : SqT K H a vs := by
  obtain ⟨o, its, n, h1, h2, h3, h4, h5, h6⟩ := tupAt_ex h
  exact .inr ⟨o, its, n, h1, h2, h4, h5, h6⟩
theorem tupAt_ty {K : PySem.W.Frag} {a : Addr} {vs : List V} (h : tupAt K a vs = true) (H : Hp) : tyV K "tuple" (.ref a) H := by
  obtain ⟨o, its, n, h1, h2, h3, h4, h5, h6⟩ := tupAt_ex h
  exact .inr (.inl ⟨rfl, o, h1, h2, h3⟩)
theorem all_ix {l : List Bool} (h : l.all id = true) (i : Nat) {b : Bool} (e : l[i]? = some b) : b = true := by
  have := List.all_eq_true.mp h b (List.mem_of_getElem? e)
  exact this
/-! ### the Hook: facts, defs, one more Bool -/
abbrev AlE : Type := He.AlD × Bool
def obsDG2 (n : Nat) (fa : List He.Fa) (fn : List He.DefD) (ex : PySem.W.Frag → Bool) (g : Addr → Option Obj) : AlE := (fun K => (He.obsD fa fn K, ex K)) (He.frG g (He.asD g n))
def hookD2 (n : Nat) (fa : List He.Fa) (fn : List He.DefD) (ex : PySem.W.Frag → Bool) : PySem.W.Hook where
  α := AlE
  obs := fun s => obsDG2 n fa fn ex s.heap.get?
  val := fun _ => (He.valD fn, true)
  says := fun _ h => ∃ K : PySem.W.Frag, K.In h ∧ He.SaysD fa fn K ∧ ex K = true
  of := fun _ _ e => ⟨_, He.frG_in, congrArg (fun z : AlE => z.1) e, congrArg (fun z : AlE => z.2) e⟩
  keeps := fun _ _ _ ⟨K, hK, c⟩ k => ⟨K, PySem.W.Frag.In.keeps hK k, c⟩
theorem obsDG2_eq {n : Nat} {fa : List He.Fa} {fn : List He.DefD} {ex : PySem.W.Frag → Bool} {g : Addr → Option Obj} {s : Shared} (h : ∀ a, g a = s.heap.get? a) : obsDG2 n fa fn ex g = (hookD2 n fa fn ex).obs s := by
  have e : g = s.heap.get? := funext h
  rw [e] <;> rfl
end My
namespace My
open PySem PySem.Spec PyProof.Rows L2
/-! ### small rules -/
section
variable {X : Cx} {k j : Nat} {C : Addr} {x : Str} {sp : Sp} {dvs : List V} {p pos : Pos}
theorem pe_c0 (c : C8.Cal X.prog X.w X.K X.mg X.base k x sp dvs) (hr : Room j X.A) (hk : k ≤ j) (hg : Gl X x) (hdb : (x == ("__debug__" : Str)) = false := by decide) :
    PE X (.Call (.Name x p) [] [] pos) (tCall sp dvs C8.E0 tNil) := by
  obtain ⟨f, fd, ps, ds, F, hm, kp, b, d⟩ := c.ex
  exact pe_call0 F (hr.mono hk) hg hm kp b d C8.pass0 hdb
theorem pe_mk0 (c : C8.Mak X.prog X.w X.K X.mg X.base k x C sp dvs) (hr : Room j X.A) (hk : k + 1 ≤ j) (hg : Gl X x) (hdb : (x == ("__debug__" : Str)) = false := by decide) :
    PE X (.Call (.Name x p) [] [] pos) (tMake C sp dvs C8.E0 tNil) := by
  obtain ⟨f, fd, ps, ds, M, F, hm, b, d⟩ := c.ex
  exact pe_make0 M F (hr.mono hk) hg hm b d C8.pass0 hdb
/-- ** of great ints -/
def CPowW (i j : Int) : Prop := 0 ≤ j ∧ j ≤ 100 ∧ i.natAbs < 2 ^ 10000
theorem op_powW : OpR X (binaryOp .Pow) (rI CPowW fun i j => .int (i ^ j.toNat)) := opI fun i j _ _ _ _ _ hc q => by
  obtain ⟨h1, h2, h3⟩ := hc
  have hb := intBits_le h3
  refine PyProof.Rows.pow_int h1 ?_ q
  have h4 : (Builtin.Int.intBits i : Int) ≤ 10000 := by omega
  have h5 : (Builtin.Int.intBits i : Int) * j ≤ 10000 * 100 := Int.mul_le_mul h4 h2 h1 (by decide)
  exact Int.le_trans h5 (by decide)
end
theorem inV_str (x : Str) : ∀ ws : List Str, inV (.str x) (ws.map V.str) = decide (x ∈ ws)
  | [] => rfl
  | y :: ws => by
    have ih := inV_str x ws
    show (eqV (.str y) (.str x) || inV (.str x) (ws.map V.str)) = _
    rw [ih]
    show ((y == x) || decide (x ∈ ws)) = _
    by_cases e : y = x
    · subst e
      simp
    · have e2 : ¬ x = y := fun z => e z.symm
      simp [e, e2]
theorem all_flat_str (ws : List Str) : (ws.map V.str).all flatV = true := by
  rw [List.all_map]
  exact List.all_eq_true.mpr fun _ _ => rfl
end My

namespace My
open PySem PySem.Spec PyProof.Rows L2
theorem map_get {α β : Type} {f : α → β} {l : List α} {i : Nat} {y : β} (h : (l.map f)[i]? = some y) : ∃ z, l[i]? = some z ∧ y = f z := by
  rw [List.getElem?_map] at h
  cases e : l[i]? with
  | none =>
    rw [e] at h
    cases h
  | some z =>
    rw [e] at h
    exact ⟨z, rfl, (Option.some.inj h).symm⟩
theorem tyx_tup {K : PySem.W.Frag} {H : Hp} {a : Addr} {xs : List V} (h : SqT K H a xs) : TyX K H (.ref a) (.type "tuple") := by
  rcases h with (h | ⟨o, h⟩) | ⟨o, its, n, hk, hc, _⟩
  · exact .base (.tup h)
  · exact .fTuple h
  · exact .kTuple hk hc
theorem tyx_lst {K : PySem.W.Frag} {H : Hp} {a : Addr} {xs : List V} (h : SqL K H a xs) : TyX K H (.ref a) (.type "list") := by
  rcases h with (h | ⟨o, h⟩) | ⟨o, its, n, hk, hc, _⟩
  · exact .base (.lst h)
  · exact .base (.frz h)
  · exact .kList hk hc
theorem same_tup {K : PySem.W.Frag} {H H' : Hp} {a : Addr} {xs : List V} (e : Same H H') (h : SqT K H a xs) : SqT K H' a xs := by
  rcases h with (h | ⟨o, h⟩) | h
  · exact .inl (.inl (e _ _ h))
  · exact .inl (.inr ⟨o, e _ _ h⟩)
  · exact .inr h
theorem same_new {H : Hp} {a : Addr} {o : HO} (h : H a = Option.none) : Same H (upd H a o) := fun b u e => by
  rw [upd_ne (ne_of_none e h)]
  exact e
theorem same_upd {H H' : Hp} {a : Addr} {o : HO} (s : Same H H') (h : H a = Option.none) : Same H (upd H' a o) := fun b u e => by
  rw [upd_ne (ne_of_none e h)]
  exact s b u e
/-- all that stood stands as it was, but at these addresses -/
def But (as : List Addr) (H H' : Hp) : Prop := ∀ b o, b ∉ as → H b = some o → H' b = some o
theorem But.refl (as : List Addr) (H : Hp) : But as H H := fun _ _ _ h => h
theorem But.trans {as : List Addr} {H H1 H2 : Hp} (a : But as H H1) (b : But as H1 H2) : But as H H2 := fun c o n h => b c o n (a c o n h)
theorem But.of {as : List Addr} {H H' : Hp} (s : Same H H') : But as H H' := fun c o _ h => s c o h
theorem But.mono {as bs : List Addr} {H H' : Hp} (s : But as H H') (h : ∀ a ∈ as, a ∈ bs) : But bs H H' := fun c o n e => s c o (fun z => n (h c z)) e
theorem But.same {H H' : Hp} (s : But [] H H') : Same H H' := fun c o h => s c o (by simp) h
/-- a change at a place that was not there, or that is let -/
theorem But.put {as : List Addr} {H H' : Hp} {a : Addr} {o : HO} (s : But as H H') (h : H a = Option.none ∨ a ∈ as) : But as H (upd H' a o) := fun b u n e => by
  have nb : b ≠ a := by
    intro z
    subst z
    rcases h with h | h
    · rw [h] at e
      cases e
    · exact n h
  rw [upd_ne nb]
  exact s b u n e
theorem But.tup {K : PySem.W.Frag} {as : List Addr} {H H' : Hp} {a : Addr} {xs : List V} (s : But as H H') (n : a ∉ as) (h : SqT K H a xs) : SqT K H' a xs := by
  rcases h with (h | ⟨o, h⟩) | h
  · exact .inl (.inl (s _ _ n h))
  · exact .inl (.inr ⟨o, s _ _ n h⟩)
  · exact .inr h
theorem But.lst {K : PySem.W.Frag} {as : List Addr} {H H' : Hp} {a : Addr} {xs : List V} (s : But as H H') (n : a ∉ as) (h : SqL K H a xs) : SqL K H' a xs := by
  rcases h with (h | ⟨o, h⟩) | h
  · exact .inl (.inl (s _ _ n h))
  · exact .inl (.inr ⟨o, s _ _ n h⟩)
  · exact .inr h
theorem But.none {as : List Addr} {H H' : Hp} {a : Addr} (s : But as H H') (n : a ∉ as) (h : H' a = Option.none) : H a = Option.none := by
  cases q : H a with
  | none => rfl
  | some o =>
    rw [s a o n q] at h
    cases h
end My
namespace My
open PySem PySem.Spec PyProof.Rows L2
/-! ### the rules by a named K (a comprehension's block has its own context over the same K) -/
section
variable {X : Cx} {K : PySem.W.Frag} {a b e o : Expr} {es : List Expr} {ta tb te to : TE} {t : TA} {pos apos cpos tpos p2 : Pos} {f name : Str} {T id : String} {r : V → List V → Hp → VK → Prop} {tg l : Expr} {tl : TE}
theorem ix_listK (h : X.K = K) : IxR X (rIxL K) := by subst h; exact ix_list
theorem ix_tupK (h : X.K = K) : IxR X (rIxT K) := by subst h; exact ix_tup
def rLenQ (K : PySem.W.Frag) : List V → Hp → VK → Prop := fun xs H Q => ∃ p ys, xs = [.ref p] ∧ (SqL K H p ys ∨ SqT K H p ys) ∧ Q (.int ys.length) H
theorem len_seqK (h : X.K = K) : CallR X (.builtin "len") (rLenQ K) := by subst h; exact call_len_seq
def rListOf (K : PySem.W.Frag) : List V → Hp → VK → Prop := fun xs H Q => ∃ p ys, xs = [.ref p] ∧ (SqL K H p ys ∨ SqT K H p ys) ∧ ∀ l, H l = none → Q (.ref l) (upd H l (.lst ys))
theorem list_ofK (h : X.K = K) : CallR X (.type "list") (rListOf K) := by subst h; exact call_list_of
def rTupleOf (K : PySem.W.Frag) : List V → Hp → VK → Prop := fun xs H Q => ∃ p ys, xs = [.ref p] ∧ ((SqL K H p ys ∧ ∀ l, H l = none → Q (.ref l) (upd H l (.tup ys))) ∨ (SqT K H p ys ∧ Q (.ref p) H))
theorem tuple_ofK (h : X.K = K) : CallR X (.type "tuple") (rTupleOf K) := by subst h; exact call_tuple_of
theorem isiK (h : X.K = K) : CallR X (.builtin "isinstance") (rIsi K) := by subst h; exact call_isi
theorem isiTK (h : X.K = K) : CallR X (.builtin "isinstance") (rIsiT K) := by subst h; exact call_isiT
theorem allK (h : X.K = K) (hc : X.calm = true) : CallR X (.builtin "all") (rAll K) := by subst h; exact cr_all hc
theorem anyK (h : X.K = K) (hc : X.calm = true) : CallR X (.builtin "any") (rAny K) := by subst h; exact cr_any hc
theorem sortedIK (h : X.K = K) : CallR X (.builtin "sorted") (rSortedI K) := by subst h; exact cr_sortedI
theorem in_seqK (h : X.K = K) : OpR X (compareOp .In) (rIn K false) := by subst h; exact op_in_seq
theorem notIn_seqK (h : X.K = K) : OpR X (compareOp .NotIn) (rIn K true) := by subst h; exact op_notIn_seq
theorem eqDK (h : X.K = K) (hu : X.A.units + 64 < cLine) : OpR X (compareOp .Eq) (rEqD K) := by subst h; exact op_eqD hu
theorem neDK (h : X.K = K) (hu : X.A.units + 64 < cLine) : OpR X (compareOp .NotEq) (rNeD K) := by subst h; exact op_neD hu
theorem catAK (h : X.K = K) : OpR X (binaryOp .Add) (rCatA K) := by subst h; exact op_catA
theorem repTK (h : X.K = K) : OpR X (binaryOp .Mult) (rRepT K) := by subst h; exact op_repT
theorem sl_listK (h : X.K = K) : SlR X (rSlL K) := by subst h; exact sl_list
theorem sl_tupAK (h : X.K = K) : SlR X (rSlA K) := by subst h; exact sl_tupA
theorem pe_fldK (h : X.K = K) (he : PE X e ta) (hb : attributeBase e f X.env (eval e X.env) = eval e X.env) : PE X (.Attribute e f pos) (tFld K ta f) := by subst h; exact pe_fld he hb
theorem pt_truthK (h : X.K = K) (ha : PE X a ta) (he : ∀ whole, isTrue a X.env whole = (do let v ← whole; standAt a.pos; holding [v] (truthy v))) : PT X a (fun σ H Q => ta σ H fun x H' => ∃ k, TruV K x H' k ∧ Q k H') := by subst h; exact pt_truth ha he
theorem pi_listK (h : X.K = K) (hl : PE X l tl) : PI X tg l (iList K tl) := by subst h; exact pi_list hl
theorem pi_tupK (h : X.K = K) (hl : PE X l tl) : PI X tg l (iTup K tl) := by subst h; exact pi_tup hl
theorem pe_revLK {k : Nat} {p1 p3 : Pos} (h : X.K = K) (he : PE X e te) : PE X (.Subscript e (.Slice none none (some (.UnaryOp .USub (.Constant (.int 1) k p1) p2)) p3) pos) (tRevL K te) := by subst h; exact pe_revL he
theorem pe_bm0K (h : X.K = K) (pa : PlainAttrs T) (slot : Slot T name id) (hty : typeOf (.builtin id) = pure (.type "method_descriptor")) (hm : MtR X id r) (ho : PE X o to)
    (hbase : attributeBase o name X.env (eval o X.env) = eval o X.env := by rfl) (hline : (apos.endLine == cpos.line) = true := by rfl) : PE X (.Call (.Attribute o name apos) [] [] cpos) (tBM0 K T r to) := by subst h; exact pe_bm0 pa slot hty hm ho hbase hline
theorem pe_bmK (h : X.K = K) (pa : PlainAttrs T) (slot : Slot T name id) (hty : typeOf (.builtin id) = pure (.type "method_descriptor")) (hm : MtR X id r) (ho : PE X o to) (ha : PA X (e :: es) t)
    (hbase : attributeBase o name X.env (eval o X.env) = eval o X.env := by rfl)
    (hfew : ((backTo cpos (starEach (e :: es) X.env)).all (fun x => !x.1) && (backToKw cpos (keywordEach [] X.env)).all (fun x => x.1.isSome)
      && decide ((e :: es).length + ([] : List Keyword).length + (if ([] : List Keyword).isEmpty then 0 else 1) < 30)) = true := by rfl)
    (hline : (apos.endLine == cpos.line) = true := by rfl) (hs : starEach (e :: es) X.env = (false, eval e X.env) :: starEach es X.env := by rfl) (hplain : (backTo cpos (starEach es X.env)).any (·.1) = false := by rfl) :
    PE X (.Call (.Attribute o name apos) (e :: es) [] cpos) (tBM K T r to t) := by subst h; exact pe_bm pa slot hty hm ho ha hbase hfew hline hs hplain
def rTupIx (K : PySem.W.Frag) : V → List V → Hp → VK → Prop := fun x xs H Q => ∃ p, ∃ ys : List Str, ∃ z j, x = .ref p ∧ xs = [.str z] ∧ SqT K H p (ys.map V.str) ∧ ys[j]? = some z ∧ (∀ m, m < j → ys[m]? ≠ some z) ∧ Q (.int (j : Nat)) H
theorem tup_indexK (h : X.K = K) : MtR X "tuple.index" (rTupIx K) := by subst h; exact mt_tup_index
end
end My
namespace My
open PySem PySem.Spec PyProof.Rows L2
theorem pg_tupK {X : Cx} {K : PySem.W.Frag} {es : List Expr} {k : Nat} {t : TGs} {n : Nat} {pos : Pos} (h0 : X.K = K) (hc : X.calm = true) (h : PGs X es t)
    (hn : (assignEach es X.env).length = n := by rfl) (hst : (assignEach es X.env).findIdx? (·.1) = none := by rfl) : PG X (.Tuple es k pos) (gTup K n t) := by subst h0; exact pg_tup hc h hn hst
/-! ### two fors in a comprehension -/
section
variable {J J1 : It} {n n1 : Nat} {G G1 : Hp → Prop} {Y Y1 : Nat → Hp → V → Hp → Prop} {g g1 : TG} {tt tt1 : TT} {te : TE} {wi1 : TI} {vs vs1 : List Nat} {σ σ2 : L2.St} {H1 H4 : Hp} {D : Addr} {Qd Nx : Hp → Prop}
theorem lc2_out (w : Walk J n G Y) (Pv : Nat → Hp → Prop) (h0 : Pv 0 (upd H1 D (.lst []))) (hG : ∀ i H, i ≤ n → Pv i H → G H)
    (hs : ∀ i x H H', i < n → Pv i H → Y i H x H' → g x (wipe σ vs) H' fun σ2 H2 => wipe σ2 vs = wipe σ vs ∧ tt σ2 H2 fun b H3 =>
      if b = true then wi1 σ2 H3 fun J1 H4 => ∃ W1 : Nat → Nat → Hp → Prop, (∃ m, W1 0 m H4) ∧ ∀ j k H, W1 j k H →
        (J1.stop j H ∧ Pv (i + 1) H) ∨ (J1.go j H ∧ ∃ Nx1 : Hp → Prop, (∀ H', Nx1 H' → ∃ k', k' < k ∧ W1 (j + 1) k' H') ∧ ∀ x H', J1.yld j H x H' → g1 x (wipe σ2 vs1) H' fun σ3 H5 => wipe σ3 vs1 = wipe σ2 vs1 ∧ tt1 σ3 H5 fun b H6 =>
          if b = true then te σ3 H6 fun y H7 => ∃ acc, H7 D = some (.lst acc) ∧ acc.length < sizeLine ∧ Nx1 (upd H7 D (.lst (acc ++ [y]))) else Nx1 H6)
      else Pv (i + 1) H3) (hd : ∀ H, Pv n H → Qd H) :
    ∃ W : Nat → Nat → Hp → Prop, (∃ m, W 0 m (upd H1 D (.lst []))) ∧ ∀ i m H, W i m H →
      (J.stop i H ∧ Qd H) ∨ (J.go i H ∧ ∃ Nx : Hp → Prop, (∀ H', Nx H' → ∃ m', m' < m ∧ W (i + 1) m' H') ∧ ∀ x H', J.yld i H x H' → g x (wipe σ vs) H' fun σ2 H2 => wipe σ2 vs = wipe σ vs ∧ tt σ2 H2 fun b H3 =>
        if b = true then wi1 σ2 H3 fun J1 H4 => ∃ W1 : Nat → Nat → Hp → Prop, (∃ m, W1 0 m H4) ∧ ∀ j k H, W1 j k H →
          (J1.stop j H ∧ Nx H) ∨ (J1.go j H ∧ ∃ Nx1 : Hp → Prop, (∀ H', Nx1 H' → ∃ k', k' < k ∧ W1 (j + 1) k' H') ∧ ∀ x H', J1.yld j H x H' → g1 x (wipe σ2 vs1) H' fun σ3 H5 => wipe σ3 vs1 = wipe σ2 vs1 ∧ tt1 σ3 H5 fun b H6 =>
            if b = true then te σ3 H6 fun y H7 => ∃ acc, H7 D = some (.lst acc) ∧ acc.length < sizeLine ∧ Nx1 (upd H7 D (.lst (acc ++ [y]))) else Nx1 H6)
        else Nx H3) := by
  refine ⟨fun i m H => m = n - i ∧ i ≤ n ∧ Pv i H, ⟨n, by simp, Nat.zero_le _, h0⟩, ?_⟩
  rintro i m H ⟨rfl, hi, p⟩
  have q := hG i H hi p
  by_cases hlt : i < n
  · exact .inr ⟨w.goes i H hlt q, Pv (i + 1), fun H' p' => ⟨n - (i + 1), by omega, rfl, hlt, p'⟩, fun x H' y => hs i x H H' hlt p (w.yields i H x H' hlt q y)⟩
  · have e : i = n := by omega
    subst e
    exact .inl ⟨w.stops H q, hd H p⟩
theorem lc2_in (w : Walk J1 n1 G1 Y1) (Pv : Nat → Hp → Prop) (h0 : Pv 0 H4) (hG : ∀ i H, i ≤ n1 → Pv i H → G1 H)
    (hs : ∀ i x H H', i < n1 → Pv i H → Y1 i H x H' → g1 x (wipe σ2 vs1) H' fun σ3 H5 => wipe σ3 vs1 = wipe σ2 vs1 ∧ tt1 σ3 H5 fun b H6 =>
      if b = true then te σ3 H6 fun y H7 => ∃ acc, H7 D = some (.lst acc) ∧ acc.length < sizeLine ∧ Pv (i + 1) (upd H7 D (.lst (acc ++ [y]))) else Pv (i + 1) H6) (hd : ∀ H, Pv n1 H → Nx H) :
    ∃ W1 : Nat → Nat → Hp → Prop, (∃ m, W1 0 m H4) ∧ ∀ j k H, W1 j k H →
      (J1.stop j H ∧ Nx H) ∨ (J1.go j H ∧ ∃ Nx1 : Hp → Prop, (∀ H', Nx1 H' → ∃ k', k' < k ∧ W1 (j + 1) k' H') ∧ ∀ x H', J1.yld j H x H' → g1 x (wipe σ2 vs1) H' fun σ3 H5 => wipe σ3 vs1 = wipe σ2 vs1 ∧ tt1 σ3 H5 fun b H6 =>
        if b = true then te σ3 H6 fun y H7 => ∃ acc, H7 D = some (.lst acc) ∧ acc.length < sizeLine ∧ Nx1 (upd H7 D (.lst (acc ++ [y]))) else Nx1 H6) := by
  refine ⟨fun i m H => m = n1 - i ∧ i ≤ n1 ∧ Pv i H, ⟨n1, by simp, Nat.zero_le _, h0⟩, ?_⟩
  rintro i m H ⟨rfl, hi, p⟩
  have q := hG i H hi p
  by_cases hlt : i < n1
  · exact .inr ⟨w.goes i H hlt q, Pv (i + 1), fun H' p' => ⟨n1 - (i + 1), by omega, rfl, hlt, p'⟩, fun x H' y => hs i x H H' hlt p (w.yields i H x H' hlt q y)⟩
  · have e : i = n1 := by omega
    subst e
    exact .inl ⟨w.stops H q, hd H p⟩
end
end My
namespace My
open PySem PySem.Spec PyProof.Rows L2
/-! ### f(b=.., a=..): both arguments by name, turned about -/
def kwG {α : Type} (us ws : List α) : List α := match us, ws with
  | [], [x, y] => [y, x]
  | _, _ => []
structure CalK2 (P : Program) (w : World) (K : PySem.W.Frag) (mg : Str → Option Value) (base : Heap) (k : Nat) (x : Str) (sp : Sp) (p1 p2 : Str) : Prop where
  ex : ∃ (f : Addr) (fd : FuncData), FnOk P w K mg base C8.CX0 k f fd [p1, p2] sp ∧ mg x = some (.ref f) ∧ PySem.W.keepIn K (.ref f) = true ∧ KBinds K fd [p1, p2] [p2, p1] kwG kwG
theorem kw2_of {K : PySem.W.Frag} {x qual : Str} {params : Arguments} {body : List Stmt} {scope : Scope} {kws : List (Str × V)} {f : Addr} {fd : FuncData} {p1 p2 : Str} (F : FunD K x qual params body scope [] kws f fd)
    (h : ∀ (kV doc pm : Value) (an : Option Addr) (cdv ct : Value) (u v : Value), bindArgs (PySem.W.fnOf x qual params body scope .none kV doc pm an cdv ct) ⟨[], [(p2, u), (p1, v)]⟩ = pure [(p1, v), (p2, u)]) : KBinds K fd [p1, p2] [p2, p1] kwG kwG := by
  obtain ⟨oc, od, dV, kV, doc, pm, an, cdv, ct, osl, rfl, lk, hcd, hD, hK⟩ := F.ex
  rcases hD with ⟨_, rfl⟩ | ⟨e, _⟩
  · refine ⟨fun s us ws X hl => ?_, fun {vs us zs ws} r1 r2 => ?_⟩
    · match us, ws, hl with
      | [], [u, v], _ => exact .of_eq (h kV doc pm an cdv ct u v)
    · cases r1 with
      | nil =>
        cases r2 with
        | nil => exact .nil
        | cons a r2 =>
          cases r2 with
          | nil => exact .nil
          | cons b r2 =>
            cases r2 with
            | nil => exact .cons b (.cons a .nil)
            | cons c r2 => exact .nil
      | cons a r1 => exact .nil
  · exact absurd rfl e
theorem pe_kw2 {X : Cx} {k j : Nat} {x p1 p2 : Str} {sp : Sp} {p pos : Pos} {kws : List Keyword} {tk : TA} (c : CalK2 X.prog X.w X.K X.mg X.base k x sp p1 p2) (hr : Room j X.A) (hk : k ≤ j) (hg : Gl X x) (hkw : PK X kws tk)
    (hall : (backToKw pos (keywordEach kws X.env)).all (·.1.isSome) = true := by rfl) (hks : (backToKw pos (keywordEach kws X.env)).filterMap (·.1) = [p2, p1] := by rfl) (hdb : (x == ("__debug__" : Str)) = false := by decide)
    (hpl : ((backTo pos (starEach [] X.env)).any (·.1) || (backToKw pos (keywordEach kws X.env)).any (·.1.isNone)) = false := by rfl) : PE X (.Call (.Name x p) [] kws pos) (tCallK sp kwG C8.E0 tNil tk) := by
  obtain ⟨f, fd, F, hm, kp, hb⟩ := c.ex
  refine ⟨fun pins s σ H Q I h => ?_⟩
  refine wpAny_Call_Name_kw (ld_glob I hg hm ?_ hdb)
  refine PySem.W.callWith_KW0 (h₀ := X.base) I.ok.mod.kin kp hall (thn (hkw.run pos pins s σ H _ I h) fun ws s2 ⟨zs, H2, I2, rz, q2⟩ => ⟨I2.kIn, ?_⟩) hpl
  rw [hks]
  exact run_fnk (us := []) F (hr.mono hk) hb C8.pass0 I2 .nil rz q2
end My
namespace My
open PySem PySem.Spec PyProof.Rows L2 StX
/-! ### C(e, *ys); C(e, .., k = v, ..) -/
section
variable {X : Cx} {K : PySem.W.Frag} {k j n : Nat} {C : Addr} {x : Str} {sp : Sp} {dvs : List V} {p pos sp_ : Pos} {e : Expr} {es : List Expr} {te : TE} {t tk : TA} {kws : List Keyword} {ks : List Str} {gV : List V → List V → List V}
theorem pa_starK (h : X.K = K) (he : PE X e te) (hr : PA X es t) (hs : starEach (.Starred e sp_ :: es) X.env = (true, eval e X.env) :: starEach es X.env := by rfl) : PA X (.Starred e sp_ :: es) (tStar K te t) := by subst h; exact pa_star he hr hs
theorem pe_mkS2 (c : C8.Mak X.prog X.w X.K X.mg X.base k x C sp dvs) (hr : Room j X.A) (hk : k + 1 ≤ j) (hg : Gl X x) (ha : PA X (e :: es) t) (hdb : (x == ("__debug__" : Str)) = false := by decide)
    (he : starEach (e :: es) X.env = (false, eval e X.env) :: starEach es X.env := by rfl) (hst : (backTo pos (starEach es X.env)).any (·.1) = true := by rfl) : PE X (.Call (.Name x p) (e :: es) [] pos) (tMake C sp dvs C8.E0 t) := by
  obtain ⟨f, fd, ps, ds, M, F, hm, b, d⟩ := c.ex
  refine ⟨fun pins s σ H Q I h => ?_⟩
  refine wpAny_Call_Name_kw (ld_glob I hg hm ?_ hdb)
  refine PySem.W.callWith_S2 (h₀ := X.base) I.ok.mod.kin M.kp (thn (ha.run pos pins s σ H _ I h) fun us s1 ⟨vs, H1, I1, r, q⟩ => ⟨I1.kIn, ?_⟩) he hst
  exact run_make M F (hr.mono hk) b d C8.pass0 I1 r q
structure MakN (P : Program) (w : World) (K : PySem.W.Frag) (mg : Str → Option Value) (base : Heap) (k : Nat) (x : Str) (C : Addr) (sp : Sp) (n : Nat) (ks : List Str) (gV : List V → List V → List V) : Prop where
  ex : ∃ (f : Addr) (fd : FuncData) (ps : List Str) (g : List Value → List Value → List Value), Mk K C f ∧ FnOk P w K mg base C8.CX0 k f fd ps sp ∧ mg x = some (.ref C) ∧ KBn K fd ps (n + 1) ks g gV
theorem pe_mkN (c : MakN X.prog X.w X.K X.mg X.base k x C sp n ks gV) (hr : Room j X.A) (hk : k + 1 ≤ j) (hg : Gl X x) (ha : PA X (e :: es) t) (hkw : PK X kws tk)
    (hall : (backToKw pos (keywordEach kws X.env)).all (·.1.isSome) = true := by rfl) (hks : (backToKw pos (keywordEach kws X.env)).filterMap (·.1) = ks := by rfl)
    (hdb : (x == ("__debug__" : Str)) = false := by decide) (he : starEach (e :: es) X.env = (false, eval e X.env) :: starEach es X.env := by rfl)
    (hpl : ((backTo pos (starEach (e :: es) X.env)).any (·.1) || (backToKw pos (keywordEach kws X.env)).any (·.1.isNone)) = false := by rfl) : PE X (.Call (.Name x p) (e :: es) kws pos) (tMakeN C n ks.length sp gV C8.E0 t tk) := by
  obtain ⟨f, fd, ps, g, M, F, hm, hb⟩ := c.ex
  exact pe_makeN M F (hr.mono hk) hg hm hb C8.pass0 ha hkw hall hks hdb he hpl
end
theorem vals_drop : ∀ {vs : List V} {us : List Value} (n : Nat), Vals vs us → Vals (vs.drop n) (us.drop n)
  | _, _, 0, h => h
  | _, _, _ + 1, .nil => .nil
  | _, _, n + 1, .cons _ t => vals_drop n t
end My
namespace My
open PySem PySem.Spec PyProof.Rows L2
/-! ### sorted of a dict, all its keys ints, as many as there are -/
def rSortW : List V → Hp → VK → Prop := fun ws H Q => ∃ (d : Addr) (pairs : List (Key × V)) (ns : List Int), ws = [.ref d] ∧ Rd H d (.dK pairs) ∧ pairs.map (·.1) = ns.map Sum.inl ∧ ns.length ≤ sizeLine ∧
  ∀ (zs : List Int) (q : Addr), zs.Perm ns → zs.Pairwise (· ≤ ·) → H q = none → Q (.ref q) (upd H q (.lst (zs.map V.int)))
section
variable {X : Cx}
theorem sortedW (calm : X.calm = true) : CallR X (.builtin "sorted") rSortW := by
  intro pins st σ H ws us Q inv rel ⟨d, pairs, ns, ew, rd, ek, hz, cont⟩
  subst ew
  obtain ⟨u, eu, ru⟩ := vals1 rel
  subst eu
  cases ru
  obtain ⟨_, lo, kv, rl, dd⟩ := dk_rd inv.hok rd
  obtain ⟨ep, at1⟩ := dd.dictAt
  have keys : kv.map (·.1) = ns.map Sum.inl := rl.keys.symm.trans ek
  have len : kv.length = ns.length := by
    have := congrArg List.length keys
    simpa using this
  refine Calls.call_function_entry kind_sorted plain_sorted entry_sorted (args_sorted1 _) ?_
  unfold Builtin.«sorted»
  refine wpAny_bind (m := checkCount "sorted" 1 1 _) (wpAny_pure ?_)
  refine wpAny_bind (PySem.W.kdu_collect (A := X.A.in1) (PySem.W.kdl_dict (knd := mixKind X.prog X.w) (kvs := kv) (ep := ep) lo) (inv.ok.hd calm) at1 (by rw [len]; exact hz) fun h2 tk got keep hgot => ?_)
  have glen : got.toList.length = ns.length := by rw [Array.length_toList, hgot.1, len]
  have allI : IntsAre got.toList ns := ints_each glen fun j v e => by
    obtain ⟨k, _, e1, e2⟩ := hgot.2 j v (by rw [← Array.getElem?_toList]; exact e)
    have e3 : (ns.map (Sum.inl : Int → Key))[j]? = some k := by rw [← keys, List.getElem?_map, e1]; rfl
    rw [List.getElem?_map] at e3
    cases e4 : ns[j]? with
    | none =>
      rw [e4] at e3
      cases e3
    | some y =>
      rw [e4] at e3
      cases e3
      rcases keyIs_shape (show keyIs (Sum.inl y) v = true from e2) with ⟨i, t, ek, ev⟩ | ⟨z, t, ek, _⟩
      · cases ek
        exact ⟨y, t, rfl, ev⟩
      · cases ek
  have inv2 : Inv X pins σ H { st with heap := h2, toks := tk } := inv.kept keep
  refine wpAny_bind (wpAny_newList ?_ (by rw [glen]; exact hz))
  have here : (h2.push (seqObj "list" got.toList.toArray 0)).get? h2.objs.size = some (seqObj "list" got.toList.toArray 0) := Heap.get?_push_size _ rfl
  show wpAny _ _ _ _ _ { st with heap := h2.push (seqObj "list" got.toList.toArray 0), toks := tk }
  refine wpAny_bind (wpAny_holding (wpAny_call_entry slot_list_sort ⟨_, here, rfl⟩ entry_list_sort (SrtO.list_sort_ord SrtO.swo_int here (by rw [glen]; exact hz) (fun two => SrtO.ints_sortable allI two) fun out o1 o2 => ⟨_, rfl, ?_⟩) (args_list_sort _)))
  obtain ⟨w1, w2, w3⟩ := SrtO.ints_out allI o1 o2
  obtain ⟨ep2, at2⟩ := sortedHeap_at (vs := got.toList) (out := out.toArray) here
  have fits : ((out.map SrtO.iv).map V.int).length ≤ sizeLine := by
    rw [List.length_map, w2.length_eq]
    exact hz
  refine wpAny_pure ⟨_, rfl, .ref h2.objs.size, _, inv2.laid (t' := tk) (fun b o e => ?_) (Nat.le_refl _) (show ObjOk X.prog X.w _ _ _ (.lst ((out.map SrtO.iv).map V.int)) from ⟨fits, out, ep2, vals_of_ints w1, at2⟩), rfl, cont _ _ w2 w3 (inv2.hok.fresh (Nat.le_refl _))⟩
  have lt : b < h2.objs.size := Heap.lt_size e
  rw [sortedHeap_old (Nat.ne_of_lt lt) (by rw [size_push']; exact Nat.lt_succ_of_lt lt)]
  exact Heap.get?_push_of_some _ e
end
end My
namespace My
open PySem PySem.Spec PyProof.Rows L2
/-! ### tuple.count of a text, among texts -/
def rTupCnt (K : PySem.W.Frag) : V → List V → Hp → VK → Prop := fun x xs H Q => ∃ (p : Addr) (ys : List Str) (z : Str), x = .ref p ∧ xs = [.str z] ∧ SqT K H p (ys.map V.str) ∧ Q (.int (ys.count z : Nat)) H
section
variable {X : Cx} {K : PySem.W.Frag}
theorem cnt_vals {z : Str} : ∀ {ys : List Str} {us : List Value}, Vals (ys.map V.str) us → us.countP (eqU (.str z)) = ys.count z
  | [], _, .nil => rfl
  | y :: ys, _, .cons (b := u) r t => by
    obtain ⟨k, rfl⟩ : ∃ k, u = Value.str y k := r
    have h1 := cnt_vals (z := z) t
    rw [List.countP_cons, h1, List.count_cons]
    congr 1
theorem tup_count : MtR X "tuple.count" (rTupCnt X.K) := by
  intro pins st S0 H x xs v us Q inv rel args hyp
  obtain ⟨p, ys, z, ex, exs, seq, cont⟩ := hyp
  subst ex exs
  cases rel
  obtain ⟨u, eu, ru⟩ := vals1 args
  obtain ⟨t, et⟩ := ru
  subst eu et
  obtain ⟨items, rv, plain, small⟩ := inv.tuple seq
  obtain ⟨⟨kind, dic, dat, slo⟩, at1, ek, n, ed⟩ := plain
  simp only at ek ed
  subst ek ed
  refine call_meets PySem.F.slot_tuple_count ⟨_, at1, rfl⟩ PySem.F.entry_tuple_count (PySem.F.args_tuple_count_2 _ _)
    (SeqAt.tuple_countAt p items.toArray n dic slo (.str z t) (eqU (.str z))) ⟨at1, fun w hw => mem_eqAt (x := .str z) ⟨t, rfl⟩ rfl rv (flat_strs ys) w (by simpa using hw), ?_⟩
  rw [show items.toArray.toList.countP (eqU (.str z)) = ys.count z from cnt_vals rv]
  exact ⟨.int (ys.count z : Nat), H, inv.tok _, ⟨_, rfl⟩, cont⟩
/-- tuple(list): what is made is held as it stands, with no dict -/
def rTupleNew (K : PySem.W.Frag) : List V → Hp → VK → Prop := fun xs H Q => ∃ p ys, xs = [.ref p] ∧ SqL K H p ys ∧ ∀ l o, H l = none → o.dict = Option.none → Q (.ref l) (upd H l (.frz o (.tup ys)))
theorem tuple_new : CallR X (.type "tuple") (rTupleNew X.K) := by
  intro pins st S0 H xs us Q inv args hyp
  obtain ⟨p, ys, ex, seq, cont⟩ := hyp
  subst ex
  obtain ⟨u, eu, ru⟩ := vals1 args
  subst eu
  cases ru
  obtain ⟨items, rv, plain, small⟩ := inv.list seq
  have len := rv.length
  refine call_tuple_list plain.isList (fun h1 keep => ?_) (by simp only [List.size_toArray] <;> omega)
  have I1 : Inv X pins S0 H { st with heap := h1 } := inv.kept (t' := st.toks) keep
  have new : (h1.push { cls := .type "tuple", data := .seq items.toArray }).get? h1.objs.size = some { cls := .type "tuple", data := .seq items.toArray } := Heap.get?_push_size _ rfl
  have I2 : Inv X pins S0 (upd H h1.objs.size (.frz { cls := .type "tuple", data := .seq items.toArray } (.tup ys))) { st with heap := h1.push { cls := .type "tuple", data := .seq items.toArray } } :=
    I1.laid (t' := st.toks) (fun b o e => Heap.get?_push_of_some _ e) (Nat.le_refl _) (show ObjOk X.prog X.w _ _ _ (.frz _ (.tup ys)) from ⟨new, small, items, rv, IsTup.new _ _⟩)
  exact ⟨.ref h1.objs.size, _, I2, rfl, cont _ _ (I1.hok.fresh (Nat.le_refl _)) rfl⟩
theorem tuple_newK (h : X.K = K) : CallR X (.type "tuple") (rTupleNew K) := by subst h; exact tuple_new
/-- a tuple with no dict -/
def FrzT (H : Hp) (p : Addr) : Prop := ∃ o xs, H p = some (.frz o (.tup xs)) ∧ o.dict = Option.none
def tBMT (r : V → List V → Hp → VK → Prop) (to : TE) (t : TA) : TE := fun σ H Q => to σ H fun x H1 => (∃ p, x = .ref p ∧ FrzT H1 p) ∧ t σ H1 fun xs H2 => r x xs H2 Q
theorem pe_bmT {o e : Expr} {es : List Expr} {to : TE} {t : TA} {name : Str} {apos cpos : Pos} {id : String} {r : V → List V → Hp → VK → Prop} (pa : PlainAttrs "tuple") (slot : Slot "tuple" name id) (hty : typeOf (.builtin id) = pure (.type "method_descriptor")) (hm : MtR X id r) (ho : PE X o to) (ha : PA X (e :: es) t)
    (base : attributeBase o name X.env (eval o X.env) = eval o X.env := by rfl)
    (few : ((backTo cpos (starEach (e :: es) X.env)).all (fun z => !z.1) && (backToKw cpos (keywordEach [] X.env)).all (fun z => z.1.isSome) && decide ((e :: es).length + ([] : List Keyword).length + (if ([] : List Keyword).isEmpty then 0 else 1) < 30)) = true := by rfl)
    (line : (apos.endLine == cpos.line) = true := by rfl) (star : starEach (e :: es) X.env = (false, eval e X.env) :: starEach es X.env := by rfl) (plain : (backTo cpos (starEach es X.env)).any (·.1) = false := by rfl) :
    PE X (.Call (.Attribute o name apos) (e :: es) [] cpos) (tBMT r to t) := by
  refine ⟨fun pins st S0 H Q I h => ?_⟩
  refine wpAny_Call_method_late base few line rfl (thn (ho.run pins st S0 H _ I h) fun v s1 ⟨x, H1, I1, r1, ty, q1⟩ => ?_)
  obtain ⟨p, ex, ob, xs, hp, hd⟩ := ty
  subst ex
  cases r1
  obtain ⟨e1, _, _, _, ob2, e2, ek, _⟩ := (show ObjOk X.prog X.w H1 s1.heap p (.frz ob (.tup xs)) from I1.hok p _ hp)
  have eo : ob2 = ob := by
    rw [e1] at e2
    exact (Option.some.inj e2).symm
  subst eo
  refine ⟨"tuple", id, pa, slot, hty, ⟨ob2, e1, ek⟩, fun a ea => by cases ea; exact ⟨ob2, e1, hd⟩, ?_⟩
  have run := ha.run cpos pins s1 S0 H1 _ I1 q1
  rw [star] at run ⊢
  refine Calls.callWith_builtin (by show (false || (backTo cpos (starEach es X.env)).any (·.1)) = false; rw [plain]; rfl) (Calls.evalArgs_plain ?_)
  exact thn run fun us s2 ⟨vs, H2, I2, r2, q2⟩ => hm pins s2 S0 H2 (.ref p) vs (.ref p) us Q I2 rfl r2 q2
theorem FrzT.same {H H' : Hp} {p : Addr} (s : Same H H') (h : FrzT H p) : FrzT H' p := by
  obtain ⟨o, xs, e, d⟩ := h
  exact ⟨o, xs, s _ _ e, d⟩
theorem tup_countK (h : X.K = K) : MtR X "tuple.count" (rTupCnt K) := by subst h; exact tup_count
end
end My

namespace My
open PySem PySem.Spec PyProof.Rows L2
set_option maxHeartbeats 4000000
/-! ### tuple * int, also by 0 and by 1 -/
theorem mul_once (l : Addr) (items : Array Value) (n : Nat) (dd : Option Addr) (sl : Array (Option Value)) (u : Tok) :
    Meets (Builtin.«tuple.__mul__» ⟨[.ref l, .int 1 u], []⟩) (fun _ R s => s.heap.get? l = some { cls := .type "tuple", dict := dd, data := .seq items n, slots := sl } ∧ R (.ok (.ret (Value.ref l))) s) := .of_wp fun prog w A R s hyp => by
  obtain ⟨hp, g, d, tk, os⟩ := s
  obtain ⟨at1, cont⟩ := hyp
  have f1 := AutoSeq1.idx_int
  wp_walk using wpAny_loadPart' at1
  exact ⟨_, rfl, cont⟩
theorem mul_none (l : Addr) (items : Array Value) (n : Nat) (dd : Option Addr) (sl : Array (Option Value)) (u : Tok) (c1 : items.isEmpty = false) :
    Meets (Builtin.«tuple.__mul__» ⟨[.ref l, .int 0 u], []⟩) (fun _ R s => s.heap.get? l = some { cls := .type "tuple", dict := dd, data := .seq items n, slots := sl } ∧ R (.ok (.ret (Value.ref s.heap.objs.size))) { s with heap := s.heap.push { cls := Value.type "tuple", data := Data.seq #[] }, toks := s.toks }) := .of_wp fun prog w A R s hyp => by
  obtain ⟨hp, g, d, tk, os⟩ := s
  obtain ⟨at1, cont⟩ := hyp
  have f1 := AutoSeq1.idx_int
  wp_walk using wpAny_loadPart' at1
  exact ⟨_, rfl, cont⟩
def rRepA (K : PySem.W.Frag) : R2 := fun x y H Q => ∃ l k xs, x = .ref l ∧ y = .int k ∧ SqT K H l xs ∧ xs ≠ [] ∧ 0 ≤ k ∧ k ≤ 1000 ∧ xs.length ≤ 1000 ∧ (k = 1 → Q (.ref l) H) ∧ (k ≠ 1 → ∀ p, H p = none → Q (.ref p) (upd H p (.tup (List.replicate k.toNat xs).flatten)))
section
variable {X : Cx}
theorem op_repA : OpR X (binaryOp .Mult) (rRepA X.K) := by
  intro pins st S0 H x y v u Q inv rel rel2 hyp
  obtain ⟨l, k, xs, ex, ey, seq, hne, h0, h1, hz, q1, q2⟩ := hyp
  subst ex ey
  by_cases k2 : 2 ≤ k
  · exact op_repT pins st S0 H _ _ v u Q inv rel rel2 ⟨l, k, xs, rfl, rfl, seq, hne, k2, h1, hz, q2 (by omega)⟩
  cases rel
  obtain ⟨t, et⟩ := rel2
  subst et
  obtain ⟨items, rv, plain, small⟩ := inv.tuple seq
  obtain ⟨⟨kind, dic, dat, slo⟩, at1, ek, n, ed⟩ := plain
  simp only at ek ed
  subst ek ed
  have full : items.toArray.isEmpty = false := by
    cases items with
    | nil => exact absurd (List.eq_nil_of_length_eq_zero rv.length) hne
    | cons a b => rfl
  rcases (show k = 0 ∨ k = 1 by omega) with e | e
  · subst e
    refine wpAny_binaryOp_repeat_ref (T := "tuple") (U := "int") (by decide) ⟨_, at1, rfl⟩ (fun s2 => typeIs_int s2 0 t) noFill_tuple_mul F.fills_int_mul F.slot_int_rmul repeat_tuple F.slot_int_index.lookup
      (call_meets F.slot_int_rmul (typeIs_int st 0 t) F.entry_int_rmul (F.args_int_rmul_2 _ _) (int_rmul_tuple 0 t l items.toArray n dic slo) ⟨at1, rfl, ⟨_, at1, rfl⟩, call_meets F.slot_tuple_mul ⟨_, at1, rfl⟩ F.entry_tuple_mul (F.args_tuple_mul_2 _ _) (mul_none l items.toArray n dic slo t full) ⟨at1, ?_⟩⟩)
    exact ⟨.ref st.heap.objs.size, _, inv.laid (t' := st.toks) (o := .tup []) (fun b ob q => Heap.get?_push_of_some _ q) (Nat.le_refl _) ⟨Nat.zero_le _, [], .nil, IsTup.new _ _⟩, rfl, q2 (by decide) _ (inv.hok.fresh (Nat.le_refl _))⟩
  · subst e
    refine wpAny_binaryOp_repeat_ref (T := "tuple") (U := "int") (by decide) ⟨_, at1, rfl⟩ (fun s2 => typeIs_int s2 1 t) noFill_tuple_mul F.fills_int_mul F.slot_int_rmul repeat_tuple F.slot_int_index.lookup
      (call_meets F.slot_int_rmul (typeIs_int st 1 t) F.entry_int_rmul (F.args_int_rmul_2 _ _) (int_rmul_tuple 1 t l items.toArray n dic slo) ⟨at1, rfl, ⟨_, at1, rfl⟩, call_meets F.slot_tuple_mul ⟨_, at1, rfl⟩ F.entry_tuple_mul (F.args_tuple_mul_2 _ _) (mul_once l items.toArray n dic slo t) ⟨at1, ?_⟩⟩)
    exact ⟨.ref l, H, inv, rfl, q1 rfl⟩
theorem repAK {K : PySem.W.Frag} (h : X.K = K) : OpR X (binaryOp .Mult) (rRepA K) := by subst h; exact op_repA
end
end My
namespace My
open PyProof.Rows PySem.Spec PySem
abbrev freshSet (b : Bool) : Obj := { cls := Value.type "set", dict := Option.none, data := .set #[] 0 (.fresh 0 0 b) }
/-! ### len(set(t)), t a tuple of texts, each one once -/
section
variable {w : World} {prog : Program} {A : Around} {R : Result → Shared → Prop} {I : Addr} {fp wr : List Addr} {G : Array GenState → Array GenState → Prop} {n : Nat} {P : Nat → Value → Prop} {St : Nat → Shared → Prop}
theorem take_not {zs : List Str} (dist : zs.Nodup) {i : Nat} (hi : i < zs.length) : zs.getD i Str.empty ∉ zs.take i := by
  intro mem
  rw [List.getD_eq_getElem?_getD, List.getElem?_eq_getElem hi, Option.getD_some] at mem
  obtain ⟨j, ej⟩ := List.mem_iff_getElem?.mp mem
  rw [List.getElem?_take] at ej
  split at ej
  · rename_i lt
    obtain ⟨jl, e⟩ := List.getElem?_eq_some_iff.mp ej
    exact absurd e (List.pairwise_iff_getElem.mp dist j i jl hi lt)
  · cases ej
theorem take_next {zs : List Str} {i : Nat} (hi : i < zs.length) : zs.take (i + 1) = zs.take i ++ [zs.getD i Str.empty] := by
  rw [List.take_add_one, List.getD_eq_getElem?_getD, List.getElem?_eq_getElem hi]
  rfl
theorem loopD (walk : WalksS prog w A.in1 I fp wr G n P St) {S : Addr} (out : S ∉ fp) {zs : List Str} (dist : zs.Nodup) (len : zs.length = n) (room : n + 1 < scanBound)
    (what : ∀ i v, P i v → ∃ t, v = .str (zs.getD i Str.empty) t) (left : Nat) : ∀ (i : Nat) (s : Shared), i + left = n → St i s →
      s.heap.SetOf (PySem.strKind prog w) S (fun k => decide (k ∈ zs.take i)) i →
      (∀ s', Moved (S :: wr) G s s' → s'.heap.SetOf (PySem.strKind prog w) S (fun k => decide (k ∈ zs)) n → R (.ok (.ret .none)) s') →
      codeAny (model prog w) A (Code.builtin "set.update.loop" ⟨[.ref S, .ref I], []⟩) R s := by
  have apart : S ∉ wr := fun z => out (walk.sub S z)
  have keepS : ∀ (s s' : Shared) (T : Str → Bool) (m : Nat), Moved wr G s s' → s.heap.SetOf (PySem.strKind prog w) S T m → s'.heap.SetOf (PySem.strKind prog w) S T m :=
    fun s s' T m mv ⟨o, es, ep, t, at1, more⟩ => ⟨o, es, ep, t, mv.heap S o apart at1, more⟩
  induction left with
  | zero =>
    intro i s e st has go
    obtain rfl : i = n := e
    refine codeAny_builtin (PyProof.Rows.F.entry_set_update_loop) ?_
    rw [Around.under_plainId PyProof.Rows.F.plain_set_update_loop]
    refine wpAny_bind (walk.done s _ _ st fun s1 mv => wpAny_pure (go s1 (mv.mono fun b hb => .tail _ hb) ?_))
    have h1 := keepS _ _ _ _ mv has
    rw [List.take_of_length_le (Nat.le_of_eq len)] at h1
    exact h1
  | succ left rec =>
    intro i s e st has go
    have lt : i < n := by omega
    refine codeAny_builtin (PyProof.Rows.F.entry_set_update_loop) ?_
    rw [Around.under_plainId PyProof.Rows.F.plain_set_update_loop]
    refine wpAny_bind (walk.item i s _ _ lt st fun v s1 pv st1 mv => ?_)
    obtain ⟨t, ev⟩ := what i v pv
    subst ev
    have h1 := keepS _ _ _ _ mv has
    refine wpAny_bind (wpAny_holding (wpAny_holding (wpAny_bind ((PySem.strKind prog w).pyHash (k := zs.getD i Str.empty) (strKind_is _ _ _ _) ?_))))
    refine wpAny_setAddHashed_of (knd := PySem.strKind prog w) (s := { s1 with toks := s1.toks + 1 }) (strKind_is _ _ _ _) rfl h1 (by omega) fun h2 but set2 => ?_
    have no := take_not dist (show i < zs.length by omega)
    have set3 : h2.SetOf (PySem.strKind prog w) S (fun k => decide (k ∈ zs.take (i + 1))) (i + 1) := by
      refine SetOf_congr set2 (fun k => ?_) (by rw [decide_eq_false no, if_neg Bool.false_ne_true])
      rw [take_next (show i < zs.length by omega)]
      simp only [List.mem_append, List.mem_singleton, Bool.decide_or]
    refine wpAny_pure ⟨plainId_quiet PyProof.Rows.F.plain_set_update_loop _, rec (i + 1) _ (by omega) (walk.frame _ s1 _ _ st1 (Nat.le_succ _) fun b hb o eb => ?_) set3 fun s3 mv3 => ?_⟩
    · rw [but.2 b (fun z : b = S => out (z ▸ hb))]
      exact eb
    · refine go s3 (Moved.trans walk.gtrans ((mv.mono fun b hb => .tail _ hb).then_heap (Nat.le_succ _) fun b o hb eb => ?_) mv3)
      rw [but.2 b (fun z : b = S => hb (z ▸ List.mem_cons_self ..))]
      exact eb
end
section
variable {w : World} {prog : Program} {A : Around} {E : Value → Shared → Prop} {s : Shared}
set_option maxHeartbeats 3000000 in
theorem setD {l : Addr} {arr : Array Value} {zs : List Str} {Q : Value → Shared → Prop} (calm : A.handled = Option.none) (tup : s.heap.IsTuple l arr) (are : StrsAre arr.toList zs) (dist : zs.Nodup) (room : zs.length + 1 < scanBound)
    (go : ∀ (h2 : Heap) (tk : Nat), h2.SetOf (PySem.strKind prog w) s.heap.objs.size (fun k => decide (k ∈ zs)) zs.length → (∀ b o, b < s.heap.objs.size → s.heap.get? b = some o → h2.get? b = some o) → Q (.ref s.heap.objs.size) { s with heap := h2, toks := tk }) :
    wpAny (model prog w) A (call (Value.type "set") [Value.ref l]) Q E s := by
  have len : zs.length = arr.size := (StrsAre.len_eq are).symm.trans Array.length_toList
  obtain ⟨cls1, rest1, mro1⟩ := PySem.F.called_set.mro
  have made1 := PySem.F.called_set.made
  have sub1 := PySem.F.called_set.sub
  refine wpAny_call (codeAny_of_tree (wpAny_pure ⟨Code.quiet_builtin _ (by decide +kernel), codeAny_builtin PySem.F.entry_type_call ?_⟩))
  rw [Around.under_plain (weight_type_call_type "set" [Value.ref l] []) rfl]
  have not1 := PySem.F.called_set.notType
  have can1 := PySem.F.called_set.canCreate
  have call1 := PySem.F.typeCall_set_1 (.ref l)
  repeat any_goals (first | assumption | wp_step)
  refine codeAny_mono (code_set_new_1 (.ref l) (E := E) (Q₁ := fun obj st => ∃ b : Bool, obj = .ref s.heap.objs.size ∧ st = { s with heap := s.heap.push (freshSet b) }) fun b => ⟨b, rfl, rfl⟩) fun res st hres => ?_
  cases res with
  | error e => exact hres
  | ok fl =>
    cases fl with
    | ret obj =>
      obtain ⟨b, eo, es⟩ := hres
      subst eo es
      have atS : (s.heap.push (freshSet b)).get? s.heap.objs.size = some (freshSet b) := Heap.get?_push_size _ rfl
      have isS : Shared.TypeIs { s with heap := s.heap.push (freshSet b) } (.ref s.heap.objs.size) "set" := ⟨_, atS, rfl⟩
      have look1 := PySem.F.called_set.init.lookup
      have bind1 := PySem.F.called_set.init.bind (.ref s.heap.objs.size)
      repeat any_goals (first | assumption | wp_step)
      refine codeAny_mono (codeAny_call_builtin (R := wants (fun r st => r = .none ∧ ∃ h2 tk, st = { s with heap := h2, toks := tk } ∧ h2.SetOf (PySem.strKind prog w) s.heap.objs.size (fun k => decide (k ∈ zs)) zs.length ∧
          ∀ b o, b < s.heap.objs.size → s.heap.get? b = some o → h2.get? b = some o) E) PySem.F.called_set.init.plain PySem.F.entry_set_init (check_set_init_1 isS ?_)) fun res2 st2 hres2 => ?_
      · obtain ⟨⟨ocls, odic, odat, oslo⟩, at0, ec, nn, ed⟩ := tup
        simp only at ec ed
        subst ec ed
        have at1 := Heap.get?_push_of_some (freshSet b) at0
        have nosub1 := PySem.F.sub_tuple_set
        have nosub2 := PySem.F.sub_tuple_frozenset
        have nodict : (Value.type "tuple" == Value.type "dict") = false := by decide
        have tup1 : (s.heap.push (freshSet b)).IsTuple l arr := ⟨_, at1, rfl, nn, rfl⟩
        unfold Builtin.«set.__init__»
        unfold noKeywords Builtin.Frozenset.updateFrom
        generalize hold : pyIter = PIter
        wp_walk
        subst hold
        refine wpAny_pyIter_tuple tup1 (wpAny_bind (wpAny_runValue ?_))
        have lt0 : l < s.heap.objs.size := Heap.lt_size at0
        have calm3 : A.in1.in1.in1.handled = Option.none := by simp [calm]
        have neI : l ≠ (s.heap.push (freshSet b)).objs.size := by
          rw [Heap.size_push]
          exact fun z => Nat.lt_irrefl _ (Nat.lt_trans (z ▸ lt0 : s.heap.objs.size + 1 < s.heap.objs.size) (Nat.lt_succ_self _))
        have outS : s.heap.objs.size ∉ [(s.heap.push (freshSet b)).objs.size, l] := by
          rw [Heap.size_push]
          simp only [List.mem_cons, List.not_mem_nil, or_false]
          exact fun z => z.elim (fun y => absurd y (Nat.ne_of_lt (Nat.lt_succ_self _))) fun y => absurd y (Nat.ne_of_gt lt0)
        refine loopD ((Walks.tuple calm3 _ l neI arr).toS) outS dist len (by omega) (fun i v hv => SS.strs_at are i v (by rw [Array.getElem?_toList]; exact hv)) arr.size 0 _ (Nat.zero_add _) ⟨⟨_, Heap.get?_push_size _ rfl, rfl, rfl⟩, tup1.push _⟩ ?_ ?_
        · exact SetOf_congr ((setObjOf_fresh (knd := PySem.strKind prog w) b).setOf (Heap.get?_push_of_some _ atS) (by unfold scanBound; omega)) (fun k => by simp) rfl
        · intro s3 mv has
          obtain ⟨h3, g3, d3, t3, os3⟩ := s3
          obtain rfl : g3 = s.gens := mv.gens
          obtain rfl : d3 = s.drawn := mv.drawn
          obtain rfl : os3 = s.os := mv.os
          refine wpAny_pure (wpAny_pure ⟨rfl, h3, t3, rfl, by rw [len]; exact has, fun c o hc ec => ?_⟩)
          refine mv.heap c o ?_ (Heap.get?_push_of_some _ (Heap.get?_push_of_some _ ec))
          rw [Heap.size_push]
          simp only [List.mem_cons, List.not_mem_nil, or_false]
          exact fun z => z.elim (fun y => absurd y (Nat.ne_of_lt hc)) fun y => absurd y (Nat.ne_of_lt (Nat.lt_succ_of_lt hc))
      · cases res2 with
        | error e => exact hres2
        | ok fl2 =>
          cases fl2 with
          | ret r =>
            obtain ⟨er, h2, tk, e2, has, keep⟩ := hres2
            subst er e2
            repeat any_goals (first | assumption | wp_step)
            exact go _ _ has keep
          | _ => exact hres2.elim
    | _ => exact hres.elim
end
open L2
def tLenSetT (K : PySem.W.Frag) (ta : TE) : TE := fun σ H Q => ta σ H fun x H1 => ∃ (l : Addr) (zs : List Str), x = .ref l ∧ SqT K H1 l (zs.map V.str) ∧ zs.Nodup ∧ zs.length ≤ 1000 ∧ Q (.int (zs.length : Nat)) H1
section
variable {X : Cx}
theorem pe_lenSetT {K : PySem.W.Frag} (hK : X.K = K) {a : Expr} {ta : TE} {p p2 q pos : Pos} (calm : X.calm = true) (g1 : Gl X "len") (m1 : X.mg "len" = Option.none) (g2 : Gl X "set") (m2 : X.mg "set" = Option.none) (arg : PE X a ta)
    (one : starEach [a] X.env = (false, eval a X.env) :: starEach [] X.env := by rfl) : PE X (.Call (.Name "len" p) [.Call (.Name "set" p2) [a] [] q] [] pos) (tLenSetT K ta) := by
  subst hK
  refine ⟨fun pins s σ H Q inv hyp => Call_ (ld_blt inv g1 m1 boot_len ?_)⟩
  refine callWith_builtin1 (args_cons (Call_ (ld_blt inv g2 m2 boot_set ?_)) rfl) rfl rfl
  refine callWith_type1 (args_cons (thn (arg.run pins s σ H _ inv hyp) fun v s1 ⟨x, H1, inv1, rel, more⟩ => args_nil ?_) one) one rfl
  obtain ⟨l, zs, ex, seq, dist, small, fin⟩ := more
  subst ex
  cases rel
  obtain ⟨its, rv, plain, _⟩ := inv1.tuple seq
  refine setD (inv1.ok.hd calm) plain (by simpa using strsAre_of rv) dist (by unfold scanBound; omega) fun h2 tk has keep => args_nil ?_
  obtain ⟨o, es, ep, t, at1, exact1, dat, _, _, _, fits, cnt⟩ := has
  have inv2 : Inv X pins σ H1 { s1 with heap := h2, toks := tk } := inv1.kept fun b o eb => keep b o (Heap.lt_size eb) eb
  exact call_len_set at1 exact1 dat fits (by rw [cnt]; omega) ⟨.int (zs.length : Nat), H1, inv2.tok _, ⟨_, by rw [cnt]⟩, fin⟩
end
end My
namespace My
open PyProof.Rows PySem.Spec PySem L2
/-! ### t[::-1], t a tuple -/
section
variable {w : World} {prog : Program} {A : Around} {E : Value → Shared → Prop} {s : Shared}
theorem adjust_rev (n : Nat) : Builtin.Slice.sliceAdjust none none (-1) (n : Int) = ((n : Int) - 1, -1) := rfl
theorem places_rev (n : Nat) : Builtin.Slice.slicePlaces ((n : Int) - 1) (-1) (-1) = n := by
  unfold Builtin.Slice.slicePlaces; rw [if_neg (by decide)]
  split <;> simp <;> omega
theorem fm_congr {α β : Type} {f g : α → Option β} : ∀ {l : List α}, (∀ x ∈ l, f x = g x) → l.filterMap f = l.filterMap g
  | [], _ => rfl
  | x :: l, h => by rw [List.filterMap_cons, List.filterMap_cons, h x (List.mem_cons_self ..), fm_congr fun y hy => h y (List.mem_cons_of_mem _ hy)]
theorem pick_rev (xs : Array Value) : ((List.range xs.size).filterMap fun (k : Nat) => xs[((xs.size : Int) - 1 + (k : Int) * -1).toNat]?).toArray = xs.toList.reverse.toArray := by
  have all := PySem.W.krv_all xs.toList.reverse.toArray
  rw [List.size_toArray, List.length_reverse, Array.length_toList] at all
  refine congrArg List.toArray (Eq.trans (fm_congr fun k hk => ?_) all)
  have lt := List.mem_range.mp hk
  have r : xs.toList.reverse.toArray[k]? = xs.toList.reverse[k]? := by simp
  rw [show ((xs.size : Int) - 1 + (k : Int) * -1).toNat = xs.size - 1 - k by omega, r, List.getElem?_reverse (by rw [Array.length_toList]; exact lt), Array.length_toList, Array.getElem?_toList]
theorem applied_rev {sl : Addr} {u : Tok} {n : Nat} {Q : Int × Int × Nat → Shared → Prop} (sli : s.heap.IsSliceOf sl .none .none (.int (-1) u)) (go : Q ((n : Int) - 1, -1, n) s) : wpAny (model prog w) A (Builtin.Slice.sliceApplied (.ref sl) (pure (n : Int))) Q E s := by
  obtain ⟨o, at1, cls1, dat1⟩ := sli
  unfold Builtin.Slice.sliceApplied
  unfold Builtin.Slice.sliceFields
  refine wpAny_bind (wpAny_bind (wpAny_field at1 dat1 (x := .none) rfl (wpAny_bind (wpAny_field at1 dat1 (x := .none) rfl (wpAny_bind (wpAny_field at1 dat1 (x := .int (-1) u) rfl (wpAny_pure ?_)))))))
  refine wpAny_bind (slicePart_int ?_)
  show wpAny _ _ (if ((-1 : Int) == 0) = true then _ else _) _ _ s
  rw [if_neg (by decide)]
  refine wpAny_bind (slicePart_none (wpAny_bind (slicePart_none (wpAny_bind (wpAny_pure ?_)))))
  have e : (match Builtin.Slice.sliceAdjust none none (-1) (n : Int) with | (lo, hi) => (lo, (-1 : Int), Builtin.Slice.slicePlaces lo hi (-1))) = ((n : Int) - 1, -1, n) := by
    rw [adjust_rev]
    show ((n : Int) - 1, (-1 : Int), Builtin.Slice.slicePlaces ((n : Int) - 1) (-1) (-1)) = _
    rw [places_rev]
  have go2 := go
  rw [← e] at go2
  exact wpAny_pure go2
set_option maxHeartbeats 1600000 in
theorem item_rev {t sl : Addr} {arr : Array Value} {u : Tok} {Q : Value → Shared → Prop} (tup : IsTup s.heap t arr) (sli : s.heap.IsSliceOf sl .none .none (.int (-1) u)) (small : arr.size ≤ sizeLine)
    (go : Q (.ref s.heap.objs.size) { s with heap := s.heap.push { cls := .type "tuple", data := .seq arr.toList.reverse.toArray } }) : wpAny (model prog w) A (getItem (.ref t) (.ref sl)) Q E s := by
  have fits : sizeOk (.seq arr.toList.reverse.toArray) := by
    show arr.toList.reverse.toArray.size ≤ sizeLine
    rw [List.size_toArray, List.length_reverse, Array.length_toList]
    exact small
  have isS : s.TypeIs (.ref sl) "slice" := by
    obtain ⟨o, at1, cls1, _⟩ := id sli
    exact ⟨o, at1, cls1⟩
  unfold getItem
  try (with_reducible refine wpAny_holding ?_)
  first | (refine wpAny_bind (wpAny_pure ?_)) | skip
  refine wpAny_bind (wpAny_sequenceKey tup.typeIs (by decide) (wpAny_bind (wpAny_callSpecial?_slot (name := Str.ofString "__getitem__") tup.typeIs PyProof.Rows.slot_tuple_getitem
    (wpAny_call_entry PyProof.Rows.slot_tuple_getitem tup.typeIs entry_tuple_getitem ?_ (args_tuple_getitem _ _)))))
  show wpAny _ _ (Builtin.Tuple.tupleItemsOf (Value.ref t) >>= _) _ _ s
  refine wpAny_bind (tupleItemsOf_ tup (wpAny_bind (wpAny_typeOf isS ?_)))
  rw [if_pos (by decide)]
  refine wpAny_bind (applied_rev sli ?_)
  have no : ¬ ((((arr.size : Int) - 1 == 0) && ((-1 : Int) == 1) && (arr.size == arr.size)) = true) := by
    rw [show ((-1 : Int) == 1) = false from rfl, Bool.and_false, Bool.false_and]
    exact Bool.false_ne_true
  show wpAny _ _ (if ((((arr.size : Int) - 1 == 0) && ((-1 : Int) == 1) && (arr.size == arr.size)) = true) then _ else _) _ _ s
  rw [if_neg no, pick_rev]
  first | exact wpAny_bind (m := Builtin.Tuple.tupleExact _) (wpAny_newObj_type (wpAny_pure ⟨_, rfl, wpAny_pure go⟩) fits) | exact wpAny_bind (m := Builtin.Tuple.tupleExact _) (wpAny_newObj_type (wpAny_bind (wpAny_pure (wpAny_pure ⟨_, rfl, wpAny_pure go⟩))) fits) | exact wpAny_bind (wpAny_bind (m := Builtin.Tuple.tupleExact _) (wpAny_newObj_type (wpAny_pure (wpAny_pure ⟨_, rfl, wpAny_pure go⟩)) fits)) | exact wpAny_bind (wpAny_bind (m := Builtin.Tuple.tupleExact _) (wpAny_newObj_type (wpAny_pure ⟨_, rfl, wpAny_pure go⟩) fits))
end
def tRevT (K : PySem.W.Frag) (te : TE) : TE := fun σ H Q => te σ H fun x H1 => ∃ a xs, x = .ref a ∧ SqT K H1 a xs ∧ ∀ p, H1 p = Option.none → Q (.ref p) (upd H1 p (.tup xs.reverse))
theorem pe_revT {X : Cx} {K : PySem.W.Frag} (hK : X.K = K) {e : Expr} {te : TE} {k : Nat} {p1 p2 p3 pos : Pos} (he : PE X e te) : PE X (.Subscript e (.Slice Option.none Option.none (some (.UnaryOp .USub (.Constant (.int 1) k p1) p2)) p3) pos) (tRevT K te) := by
  subst hK
  refine ⟨fun pins s σ H Q inv hyp => Subscript_ (thn (he.run pins s σ H _ inv hyp) fun v s1 ⟨x, H1, inv1, rel, a, xs, ex, seq, go⟩ => ?_)⟩
  subst ex
  cases rel
  have step : PO X (some (.UnaryOp .USub (.Constant (.int 1) k p1) p2)) (tPart (tUn (rU fun i => .int (-i)) (tC (.int 1)))) := po_some (pe_un un_neg pe_int)
  refine wpAny_Slice (thn (po_none.run pins s1 σ H1 (fun o J => o = Option.none ∧ J = H1) inv1 ⟨rfl, rfl⟩) fun vl s2 ⟨l, J1, inv2, pl, el, e1⟩ => ?_)
  subst el e1
  refine thn (po_none.run pins s2 σ J1 (fun o J => o = Option.none ∧ J = J1) inv2 ⟨rfl, rfl⟩) fun vu s3 ⟨l2, J2, inv3, pu, eu, e2⟩ => ?_
  subst eu e2
  refine thn (step.run pins s3 σ J2 (fun o J => o = some (-1) ∧ J = J2) inv3 ⟨1, rfl, -1, rfl, rfl, rfl⟩) fun vs s4 ⟨o, J3, inv4, ps, eo, e3⟩ => ?_
  subst eo e3
  obtain ⟨tk, ek⟩ : ∃ t, vs = Value.int (-1) t := by
    cases ps
    exact ⟨_, rfl⟩
  have el : vl = Value.none := by
    cases pl
    rfl
  have eu : vu = Value.none := by
    cases pu
    rfl
  subst ek el eu
  have inv5 : L2.Inv X pins σ J3 { s4 with heap := s4.heap.push { cls := .type "slice", data := .fields #[Value.none, Value.none, Value.int (-1) tk] } } := inv4.kept (t' := s4.toks) fun b ob q => Heap.get?_push_of_some _ q
  obtain ⟨its, rv, tup, small⟩ := inv5.tuple seq
  show wpAny (model X.prog X.w) X.A (subscriptTail e (.Slice Option.none Option.none (some (.UnaryOp .USub (.Constant (.int 1) k p1) p2)) p3) (.ref a) (.ref s4.heap.objs.size)) (EP X pins σ Q) X.xe { s4 with heap := s4.heap.push { cls := .type "slice", data := .fields #[Value.none, Value.none, Value.int (-1) tk] } }
  refine tail_any (ops := [.ref a, .ref s4.heap.objs.size]) tup.typeIs PyProof.Rows.slot_tuple_getitem.lookup (item_rev tup (Heap.IsSliceOf.new _ Value.none Value.none (Value.int (-1) tk)) (by rw [List.size_toArray, ← rv.length]; exact small) ?_) (by with_unfolding_all rfl)
  refine ⟨.ref _, _, inv5.laid (t' := s4.toks) (o := .tup xs.reverse) (fun b ob q => Heap.get?_push_of_some _ q) (Nat.le_refl _) ⟨by rw [List.length_reverse]; exact small, _, rv.reverse, IsTup.new _ _⟩, rfl, go _ (inv5.hok.fresh (Nat.le_refl _))⟩
/-! ### o.m(p1=.., p2=..): a method, its arguments by name, in their order -/
structure MetN (P : Program) (w : World) (K : PySem.W.Frag) (mg : Str → Option Value) (base : Heap) (k : Nat) (C : Addr) (m : Str) (sp : Sp) (ks : List Str) (gV : List V → List V → List V) : Prop where
  ex : ∃ (f : Addr) (fd : FuncData) (ps : List Str) (g : List Value → List Value → List Value), Cls K C ∧ Meth K C m f ∧ FnOk P w K mg base C8.CX0 k f fd ps sp ∧ KBn K fd ps 1 ks g gV
def tMethN (C : Addr) (m : Str) (nk : Nat) (sp : Sp) (gV : List V → List V → List V) (ta : TE) (tk : TA) : TE := fun σ H Q => ta σ H fun x H1 => ∃ a dx fs, x = .ref a ∧ H1 a = some (.ins C dx fs) ∧ fs.lookup m = Option.none ∧
  tk σ H1 fun zs H2 => zs.length = nk ∧ sp (gV [V.ref a] zs) H2 Q C8.E0
def kwGm {α : Type} (us ws : List α) : List α := match us, ws with
  | [a], [x, y] => [a, x, y]
  | _, _ => []
theorem kwm_of {K : PySem.W.Frag} {x qual : Str} {params : Arguments} {body : List Stmt} {scope : Scope} {kws : List (Str × V)} {f : Addr} {fd : FuncData} {p0 p1 p2 : Str} (F : FunD K x qual params body scope [] kws f fd)
    (h : ∀ (kV doc pm : Value) (an : Option Addr) (cdv ct : Value) (a u v : Value), bindArgs (PySem.W.fnOf x qual params body scope .none kV doc pm an cdv ct) ⟨[a], [(p1, u), (p2, v)]⟩ = pure [(p0, a), (p1, u), (p2, v)]) : KBn K fd [p0, p1, p2] 1 [p1, p2] kwGm kwGm := by
  obtain ⟨oc, od, dV, kV, doc, pm, an, cdv, ct, osl, efd, lk, hcd, hD, hK⟩ := F.ex
  subst efd
  rcases hD with ⟨_, ed⟩ | ⟨e, _⟩
  · subst ed
    refine ⟨fun s us ws _ l1 l2 => ?_, fun {vs us zs ws} r1 r2 => ?_⟩
    · match us, ws, l1, l2 with
      | [a], [u, v], _, _ => exact .of_eq (h kV doc pm an cdv ct a u v)
    · match vs, us, zs, ws, r1, r2 with
      | [], _, _, _, .nil, _ => exact .nil
      | [_], _, [], _, .cons _ .nil, .nil => exact .nil
      | [_], _, [_], _, .cons _ .nil, .cons _ .nil => exact .nil
      | [_], _, [_, _], _, .cons a .nil, .cons b (.cons c .nil) => exact .cons a (.cons b (.cons c .nil))
      | [_], _, _ :: _ :: _ :: _, _, .cons _ .nil, .cons _ (.cons _ (.cons _ _)) => exact .nil
      | _ :: _ :: _, _, _, _, .cons _ (.cons _ _), _ => exact .nil
  · exact absurd rfl e
theorem pe_mtN {X : Cx} {k j : Nat} {C : Addr} {m : Str} {sp : Sp} {ks : List Str} {gV : List V → List V → List V} {o : Expr} {ta : TE} {tk : TA} {kws : List Keyword} {apos pos : Pos} {pl : Sem Bool} (c : MetN X.prog X.w X.K X.mg X.base k C m sp ks gV) (hr : Room j X.A) (hk : k ≤ j) (he : PE X o ta) (hkw : PK X kws tk)
    (hall : (backToKw pos (keywordEach kws X.env)).all (·.1.isSome) = true := by rfl) (hks : (backToKw pos (keywordEach kws X.env)).filterMap (·.1) = ks := by rfl)
    (hpl : ((backTo pos (starEach [] X.env)).any (·.1) || (backToKw pos (keywordEach kws X.env)).any (·.1.isNone)) = false := by rfl)
    (ht : eval (.Call (.Attribute o m apos) [] kws pos) X.env = (do
      let ov ← eval o X.env
      standAt apos.atName
      let (f, first) ← holding [ov] (getMethod ov m (pl))
      callWith pos f first (backTo pos (starEach [] X.env)) (backToKw pos (keywordEach kws X.env))) := by rfl) : PE X (.Call (.Attribute o m apos) [] kws pos) (tMethN C m ks.length sp gV ta tk) := by
  obtain ⟨f, fd, ps, g, cl, hm, F, hb⟩ := c.ex
  refine ⟨fun pins s σ H Q inv hyp => PySem.W.methodCall_KW (pl := pl) (thn (he.run pins s σ H _ inv hyp) fun u s1 ⟨x, H1, inv1, rx, a, dx, fs, ex, ea, lk, more⟩ => ?_) ht⟩
  subst ex
  cases rx
  refine getmeth_ok inv1 ea cl hm lk ?_
  refine PySem.W.callWith_KW0 (first := [Value.ref a]) (h₀ := X.base) inv.ok.mod.kin hm.kp hall (thn (hkw.run pos pins s1 σ H1 _ inv1 more) fun ws s2 ⟨zs, H2, inv2, rz, len, fin⟩ => ⟨inv2.kIn, ?_⟩) hpl
  rw [hks]
  have pass : Passes C8.CX0 X C8.E0 := C8.pass0
  have rel := hb.rel (vs := [V.ref a]) (us := [Value.ref a]) (.cons rfl .nil) rz
  refine wpAny_call (codeAny_mono (F.run X.A X.stack s2 H2 ⟨[Value.ref a], ks.zip ws⟩ (g [Value.ref a] ws) (gV [V.ref a] zs) Q C8.E0 (hr.mono hk) inv2.env0 (hb.to s2 [Value.ref a] ws inv2.kIn rfl (rz.length.symm.trans len)) rel fin) fun res s3 hres => ?_)
  cases res with
  | error e => exact pass pins σ H2 s2 e s3 inv2 hres
  | ok fl =>
    cases fl with
    | ret u => exact inv2.after hres
    | _ => exact False.elim hres
/-! ### C(k=.., ..): an instance, all arguments by name -/
theorem pe_mkK {X : Cx} {k j : Nat} {x : Str} {C : Addr} {sp : Sp} {ks : List Str} {gV : List V → List V → List V} {p pos : Pos} {kws : List Keyword} {tk : TA} (c : MakN X.prog X.w X.K X.mg X.base k x C sp 0 ks gV) (hr : Room j X.A) (hk : k + 1 ≤ j) (hg : Gl X x) (hkw : PK X kws tk)
    (hall : ((backToKw pos (keywordEach kws X.env)).all (·.1.isSome)) = true := by rfl) (hks : (backToKw pos (keywordEach kws X.env)).filterMap (·.1) = ks := by rfl) (hdb : (x == ("__debug__" : Str)) = false := by decide)
    (hpl : ((backTo pos (starEach [] X.env)).any (·.1) || (backToKw pos (keywordEach kws X.env)).any (·.1.isNone)) = false := by rfl) : PE X (.Call (.Name x p) [] kws pos) (tMakeK C 0 ks.length sp gV C8.E0 tNil tk) := by
  obtain ⟨f, fd, ps, g, M, F, hm, hb⟩ := c.ex
  exact pe_makeK0 M F (hr.mono hk) hg hm hb C8.pass0 hkw hall hks hdb hpl
/-! ### + of tuples and parts of them, over a K of its own -/
theorem catTK {X : Cx} {K : PySem.W.Frag} (h : X.K = K) : OpR X (binaryOp .Add) (rCatT K) := by subst h; exact op_catT
theorem slTK {X : Cx} {K : PySem.W.Frag} (h : X.K = K) : SlR X (rSlT K) := by subst h; exact sl_tup
end My
namespace My
open PyProof.Rows PySem.Spec PySem L2
section
variable {X : Cx} {K : PySem.W.Frag} {o e : Expr} {to te : TE} {apos pos : Pos}
/-! ### sep.join(xs) -/
def rJoin (K : PySem.W.Frag) : V → List V → Hp → VK → Prop := fun x xs H Q => ∃ a p, ∃ ys : List Str, x = .str a ∧ xs = [.ref p] ∧ (SqL K H p (ys.map V.str) ∨ SqT K H p (ys.map V.str)) ∧ (ys.map (·.length)).sum + ys.length * a.length ≤ 16777216 ∧ Q (.str (Txt.join a ys)) H
theorem pe_joinK (h : X.K = K) (ho : PE X o to) (he : PE X e te) (hs : starEach [e] X.env = [(false, eval e X.env)] := by rfl) (hbase : attributeBase o "join" X.env (eval o X.env) = eval o X.env := by rfl) (hline : (apos.endLine == pos.line) = true := by rfl) :
    PE X (.Call (.Attribute o "join" apos) [e] [] pos) (tM1 (rJoin K) to te) := by
  subst h
  exact pe_join ho he hs hbase hline
end
end My
namespace My
open PyProof.Rows PySem.Spec PySem L2
section
variable {X : Cx} {K : PySem.W.Frag}
/-! ### xs[i], xs a list or a tuple -/
def rIxB (K : PySem.W.Frag) : R2 := fun x y H Q => rIxL K x y H Q ∨ rIxT K x y H Q
theorem ix_bothK (h : X.K = K) : IxR X (rIxB K) := by
  subst h
  intro value slice pins s σ H x y v u Q I rx ry hw hs
  rcases hw with hw | hw
  · exact ix_list value slice pins s σ H x y v u Q I rx ry hw hs
  · exact ix_tup value slice pins s σ H x y v u Q I rx ry hw hs
end
end My
namespace My
open PyProof.Rows PySem.Spec PySem L2
/-! ### f(a=..): the only argument by name -/
def kwG1 {α : Type} (us ws : List α) : List α := match us, ws with
  | [], [x] => [x]
  | _, _ => []
structure CalK1 (P : Program) (w : World) (K : PySem.W.Frag) (mg : Str → Option Value) (base : Heap) (k : Nat) (x : Str) (sp : Sp) (p1 : Str) : Prop where
  ex : ∃ (f : Addr) (fd : FuncData), FnOk P w K mg base C8.CX0 k f fd [p1] sp ∧ mg x = some (.ref f) ∧ PySem.W.keepIn K (.ref f) = true ∧ KBinds K fd [p1] [p1] kwG1 kwG1
theorem kw1_of {K : PySem.W.Frag} {x qual : Str} {params : Arguments} {body : List Stmt} {scope : Scope} {kws : List (Str × V)} {f : Addr} {fd : FuncData} {p1 : Str} (F : FunD K x qual params body scope [] kws f fd)
    (h : ∀ (kV doc pm : Value) (an : Option Addr) (cdv ct : Value) (u : Value), bindArgs (PySem.W.fnOf x qual params body scope .none kV doc pm an cdv ct) ⟨[], [(p1, u)]⟩ = pure [(p1, u)]) : KBinds K fd [p1] [p1] kwG1 kwG1 := by
  obtain ⟨oc, od, dV, kV, doc, pm, an, cdv, ct, osl, efd, lk, hcd, hdv, hK⟩ := F.ex
  subst efd
  rcases hdv with ⟨_, edv⟩ | ⟨e, _⟩
  · subst edv
    refine ⟨fun s us ws _ len => ?_, fun {vs us zs ws} r1 r2 => ?_⟩
    · match us, ws, len with
      | [], [u], _ => exact .of_eq (h kV doc pm an cdv ct u)
    · match vs, us, zs, ws, r1, r2 with
      | [], _, [], _, .nil, .nil => exact .nil
      | [], _, [_], _, .nil, .cons a .nil => exact .cons a .nil
      | [], _, _ :: _ :: _, _, .nil, .cons _ (.cons _ _) => exact .nil
      | _ :: _, _, _, _, .cons _ _, _ => exact .nil
  · exact absurd rfl e
theorem pe_kw1 {X : Cx} {k j : Nat} {x p1 : Str} {sp : Sp} {p pos : Pos} {kws : List Keyword} {tk : TA} (c : CalK1 X.prog X.w X.K X.mg X.base k x sp p1) (hr : Room j X.A) (hk : k ≤ j) (hg : Gl X x) (hkw : PK X kws tk)
    (hall : (backToKw pos (keywordEach kws X.env)).all (·.1.isSome) = true := by rfl) (hks : (backToKw pos (keywordEach kws X.env)).filterMap (·.1) = [p1] := by rfl) (hdb : (x == ("__debug__" : Str)) = false := by decide)
    (hpl : ((backTo pos (starEach [] X.env)).any (·.1) || (backToKw pos (keywordEach kws X.env)).any (·.1.isNone)) = false := by rfl) : PE X (.Call (.Name x p) [] kws pos) (tCallK sp kwG1 C8.E0 tNil tk) := by
  obtain ⟨f, fd, F, hm, kp, hb⟩ := c.ex
  refine ⟨fun pins s σ H Q inv hyp => ?_⟩
  refine wpAny_Call_Name_kw (ld_glob inv hg hm ?_ hdb)
  refine PySem.W.callWith_KW0 (h₀ := X.base) inv.ok.mod.kin kp hall (thn (hkw.run pos pins s σ H _ inv hyp) fun ws s2 ⟨zs, H2, inv2, rz, q2⟩ => ⟨inv2.kIn, ?_⟩) hpl
  rw [hks]
  exact run_fnk (us := []) F (hr.mono hk) hb C8.pass0 inv2 .nil rz q2
end My
namespace My
open PyProof.Rows PySem.Spec PySem L2
/-! ### for i, x in enumerate(t, start=k), t a tuple -/
/-- the tuple at a, each item in a new pair, counted from k on -/
def IteT (K : PySem.W.Frag) (a : Addr) (k : Int) : It :=
  ⟨fun i H => ∃ (xs : List V) (x : V), SqT K H a xs ∧ xs[i]? = some x,
   fun i H v H' => ∃ T x, v = .ref T ∧ H T = Option.none ∧ H' = upd H T (.tup [.int (k + ((i : Nat) : Int)), x]) ∧ ∀ xs, SqT K H a xs → xs[i]? = some x,
   fun i H => ∃ xs : List V, SqT K H a xs ∧ xs.length ≤ i⟩
theorem enumT_end {prog : Program} {w : World} {A : Around} {E : Value → Shared → Prop} {s : Shared} {e it a : Addr} {c : Int} {i : Nat} {items : Array Value} {old : Value} {Q : Option Value → Shared → Prop} (calm : A.handled = Option.none) (isE : IsEnum s.heap e it c old)
    (isI : s.heap.IsTupleIter it a i) (tupIs : s.heap.IsTuple a items) (over : items[i]? = Option.none) (go : ∀ h', Heap.ExtBut it s.heap h' → Q Option.none { s with heap := h' }) : wpAny (model prog w) A (pyNext (.ref e)) Q E s := by
  have typ : s.TypeIs (.ref e) "enumerate" := ⟨_, isE, rfl⟩
  unfold pyNext
  refine wpAny_bind (wpAny_attempt (wpAny_callSpecial?_slot (name := Str.ofString "__next__") typ F.slot_enumerate_next (wpAny_call_entry F.slot_enumerate_next typ F.entry_enumerate_next ?_ (F.args_enumerate_next_1 _))))
  show wpAny _ _ (field (Value.ref e) 2 >>= _) _ _ _
  refine wpAny_bind (wpAny_field isE rfl (x := .ref it) rfl (wpAny_bind (wpAny_nextOf_tuple_end calm isI tupIs over fun h' x ext raised => ?_)))
  obtain ⟨ob, at0, cls0⟩ := raised
  exact wpAny_bind (wpAny_isInstance (T := "StopIteration") (b := true) ⟨ob, at0, cls0⟩ isSubtype_stop (wpAny_pure (go _ ext)))
theorem turn_enumT {P : Program} {w : World} {K : PySem.W.Frag} {elts : List Expr} {kk : Nat} {tpos : Pos} (a e it : Addr) (k : Int) :
    Turn P w K (.Tuple elts kk tpos) (IteT K a k) [e, it] e (fun i h => (∃ old, IsEnum h e it (k + ((i : Nat) : Int)) old) ∧ h.IsTupleIter it a i ∧ e ≠ it ∧ a ≠ it ∧ e ≠ a) where
  mem := List.mem_cons_self ..
  obj := fun i h st b hb => by
    obtain ⟨⟨old, isE⟩, ⟨ob, atI, clsI, datI⟩, _⟩ := st
    rcases (by simpa using hb : b = e ∨ b = it) with z | z
    · subst z; exact ⟨_, isE, fun v bad => nomatch bad⟩
    · subst z; exact ⟨ob, atI, fun v bad => by rw [datI] at bad; cases bad⟩
  keep := fun i h h' st kp => let ⟨⟨old, isE⟩, isI, ne⟩ := st; ⟨⟨old, kp e (by simp) _ isE⟩, isI.at fun ob at0 => kp it (by simp) ob at0, ne⟩
  item := by
    intro X eP eW eK calm i pins s σ H E inv fpo st going
    subst eP eW eK
    obtain ⟨⟨old, isE⟩, isI, nei, nai, nea⟩ := st
    obtain ⟨xs, x, seq, at1⟩ := going
    obtain ⟨its, rv, tupIs, small⟩ := inv.tuple seq
    obtain ⟨u, atU, relU⟩ := rv.get at1
    have eLt : e < s.heap.objs.size := Heap.lt_size isE
    have iLt : it < s.heap.objs.size := by obtain ⟨_, at0, _⟩ := isI; exact Heap.lt_size at0
    have tupIs2 : s.heap.IsTuple a its.toArray := tupIs
    have lt1 : i < its.toArray.size := by
      have := (List.getElem?_eq_some_iff.mp atU).1
      simpa using this
    refine wpAny_pyNext_enum_itemC (Draws.tuple (A := X.A.in1) (show X.A.in1.handled = Option.none from inv.ok.hd calm) it a nai its.toArray) isE ⟨isI, tupIs2⟩ lt1 nei (by simp; exact ⟨nei, nea⟩) fun x1 h' tk drew out' st' atT size' rest => ?_
    have ex : x1 = u := by
      have e1 : its.toArray[i]? = some x1 := drew
      rw [List.getElem?_toArray, atU] at e1
      exact (Option.some.inj e1).symm
    subst ex
    refine ⟨_, rfl, wpAny_letOwnedTupleGo_enum (s := { s with heap := h', toks := tk + 1 }) out' fun h2 isE2 same2 => ?_⟩
    have atT2 : h2.get? s.heap.objs.size = some { cls := .type "tuple", data := .seq #[.int (k + ((i : Nat) : Int)) tk, x1] } := (same2.2 _ (Nat.ne_of_gt eLt)).trans atT
    have fresh1 : ObjOk X.prog X.w (upd H s.heap.objs.size (.tup [.int (k + ((i : Nat) : Int)), x])) h2 s.heap.objs.size (.tup [.int (k + ((i : Nat) : Int)), x]) :=
      ⟨by show 2 ≤ sizeLine; decide, [.int (k + ((i : Nat) : Int)) tk, x1], .cons ⟨_, rfl⟩ (.cons relU .nil), ⟨_, atT2, rfl, _, rfl⟩⟩
    have inv1 : Inv X pins σ (upd H s.heap.objs.size (.tup [.int (k + ((i : Nat) : Int)), x])) { s with heap := h2, toks := tk + 1 } :=
      inv.turnedNew (ch := [e, it]) (fun b ob nb at0 => (same2.2 b (fun z => nb (by simp [z]))).trans (rest b ob (fun z => nb (by simp [z])) (fun z => nb (by simp [z])) at0)) fpo (Nat.le_refl _) fresh1
    refine ⟨.ref s.heap.objs.size, _, inv1, rfl, ⟨_, x, rfl, inv.hok.fresh (Nat.le_refl _), rfl, fun ys sq => by rw [inv.tuple_inj sq seq]; exact at1⟩, ⟨⟨x1, ?_⟩, st'.1.at fun ob at0 => (same2.2 it (Ne.symm nei)).trans at0, nei, nai, nea⟩, fun b hb => ?_⟩
    · have e1 : k + (((i + 1 : Nat)) : Int) = k + (i : Int) + 1 := by omega
      rw [e1]
      exact isE2
    · have lt2 : b < s.heap.objs.size := by
        rcases (by simpa using hb : b = e ∨ b = it) with z | z
        · subst z; exact eLt
        · subst z; exact iLt
      rw [upd_ne (Nat.ne_of_lt lt2)]
      exact (fpo b hb).1
  done := by
    intro X eP eW eK calm i pins s σ H E inv fpo st stops
    subst eP eW eK
    obtain ⟨⟨old, isE⟩, isI, nei, nai, nea⟩ := st
    obtain ⟨xs, seq, over⟩ := stops
    obtain ⟨its, rv, tupIs, small⟩ := inv.tuple seq
    have len := rv.length
    refine enumT_end (inv.ok.hd calm) isE isI (show s.heap.IsTuple a its.toArray from tupIs) (by simp; omega) fun h' same => ⟨rfl, ?_⟩
    obtain ⟨f0, f1, f2, f3, f4, f5⟩ := fpo it (by simp)
    exact inv.turned (t' := s.toks) (fun b ob nb at0 => same b ob nb at0) f0 f1 f3 f4 f5
  self := fun A i s Q E st hyp => let ⟨⟨_, isE⟩, _⟩ := st; wpAny_pyIter_enum isE hyp
/-- a call of a built-in class, the last arguments by name -/
theorem callTyKw {M : Model} {A : Around} {E : Value → Shared → Prop} {s : Shared} {env : Env} {pos : Pos} {T : String} {e : Expr} {rest : List Expr} {kws : List Keyword} {Q : Value → Shared → Prop}
    (hyp : wpAny M A (spliced (backTo pos (starEach (e :: rest) env))) (fun vs s1 => wpAny M A (evalAll ((backToKw pos (keywordEach kws env)).map (·.2))) (fun us s2 => wpAny M A (call (.type T) vs (((backToKw pos (keywordEach kws env)).filterMap (·.1)).zip us)) Q E s2) E s1) E s)
    (first : backTo pos (starEach (e :: rest) env) = (false, eval e env) :: backTo pos (starEach rest env)) (plain : (backTo pos (starEach (e :: rest) env)).any (·.1) = false)
    (named : (backToKw pos (keywordEach kws env)).all (·.1.isSome) = true) (noStars : (backToKw pos (keywordEach kws env)).any (·.1.isNone) = false) :
    wpAny M A (callWith pos (.type T) [] (backTo pos (starEach (e :: rest) env)) (backToKw pos (keywordEach kws env))) Q E s := by
  have args : wpAny M A (evalArgs (.type T) true (backTo pos (starEach (e :: rest) env)) (backToKw pos (keywordEach kws env))) (fun a s1 => wpAny M A (call (.type T) ([] ++ a.pos) a.kw) Q E s1) E s := by
    rw [first] at hyp ⊢
    exact evalArgs_kwB named hyp
  unfold callWith
  refine wpAny_bind (wpAny_holding (wpAny_mono args (fun a s1 h1 => wpAny_bind (wpAny_standAt ?_)) fun _ _ bad => bad))
  simp only [plain, noStars, Bool.or_false]
  exact wpAny_bind (wpAny_pure (wpAny_bind (wpAny_mono h1 (fun r s2 h2 => wpAny_bind (wpAny_holding (wpAny_point (wpAny_pure h2)))) fun _ _ bad => bad)))
/-- enumerate(t, start=k) -/
def iEnumT (K : PySem.W.Frag) (ta tk : TA) : TI := fun σ H R => ta σ H fun vs H1 => tk σ H1 fun zs H2 => ∃ a xs k, vs = [.ref a] ∧ zs = [.int k] ∧ -(2 ^ 63) ≤ k ∧ k < 2 ^ 63 ∧ SqT K H2 a xs ∧ R (IteT K a k) H2
theorem pi_enumT {X : Cx} {K : PySem.W.Frag} {e : Expr} {ta tk : TA} {p pos tpos : Pos} {elts : List Expr} {kk : Nat} {kws : List Keyword} (h : X.K = K) (hg : Gl X "enumerate") (hm : X.mg "enumerate" = Option.none) (ha : PA X [e] ta) (hk : PK X kws tk)
    (he : backTo pos (starEach [e] X.env) = (false, eval e X.env) :: backTo pos (starEach [] X.env) := by rfl) (hpl : (backTo pos (starEach [e] X.env)).any (·.1) = false := by rfl)
    (hall : (backToKw pos (keywordEach kws X.env)).all (·.1.isSome) = true := by rfl) (hnone : (backToKw pos (keywordEach kws X.env)).any (·.1.isNone) = false := by rfl) (hks : (backToKw pos (keywordEach kws X.env)).filterMap (·.1) = [Str.ofString "start"] := by rfl) :
    PI X (.Tuple elts kk tpos) (.Call (.Name "enumerate" p) [e] kws pos) (iEnumT K ta tk) := by
  subst h
  refine ⟨fun pins s σ H R inv hyp => ?_⟩
  refine wpAny_Call_Name_kw (ld_blt inv hg hm boot_enumerate ?_)
  refine callTyKw (thn (ha.run pos pins s σ H _ inv hyp) fun us s1 ⟨vs, H1, inv1, r1, q1⟩ => thn (hk.run pos pins s1 σ H1 _ inv1 q1) fun ws s2 ⟨zs, H2, inv2, r2, q2⟩ => ?_) he hpl hall hnone
  rw [hks]
  obtain ⟨a, xs, k, ev, ez, k0, k1, seq, go⟩ := q2
  subst ev ez
  cases r1 with
  | cons ra rr =>
    cases rr
    cases ra
    cases r2 with
    | cons rk rr =>
      cases rr
      obtain ⟨tk1, ek⟩ := rk
      subst ek
      obtain ⟨its, rv, tupIs, small⟩ := inv2.tuple seq
      have tup2 : s2.heap.IsTuple a its.toArray := tupIs
      have aLt : a < s2.heap.objs.size := by obtain ⟨_, at0, _⟩ := tup2; exact Heap.lt_size at0
      refine enum_begins_start (begins_tuple a its.toArray) tup2 k0 k1 fun h' isE atI size' rest => wpAny_pyIter_enum isE ?_
      have inv3 : Inv X pins σ H2 { s2 with heap := h' } := inv2.kept (t' := s2.toks) rest
      refine ⟨s2.heap.objs.size + 1, [s2.heap.objs.size + 1, s2.heap.objs.size], _, _, H2, rfl, inv3, turn_enumT a (s2.heap.objs.size + 1) s2.heap.objs.size k, ⟨⟨.none, ?_⟩, ⟨_, atI, rfl, rfl⟩, Nat.succ_ne_self _, Nat.ne_of_lt aLt, Nat.ne_of_gt (Nat.lt_succ_of_lt aLt)⟩, fun b hb => ?_, go⟩
      · have e0 : k + ((0 : Nat) : Int) = k := by omega
        rw [e0]
        exact isE
      · have le1 : s2.heap.objs.size ≤ b := by
          rcases (by simpa using hb : b = s2.heap.objs.size + 1 ∨ b = s2.heap.objs.size) with z | z
          · rw [z]; exact Nat.le_add_right _ 1
          · rw [z]; exact Nat.le_refl _
        exact inv2.fpOk le1 (inv2.hok.fresh le1)
theorem walk_enumT {K : PySem.W.Frag} {a : Addr} {xs : List V} {k : Int} : Walk (IteT K a k) xs.length (fun H => SqT K H a xs) (YPair (fun i => some (.int (k + ((i : Nat) : Int)))) (fun i => xs[i]?)) := by
  refine ⟨fun i _ lt seq => ⟨xs, xs[i], seq, by simp [lt]⟩, fun _ seq => ⟨xs, seq, Nat.le_refl _⟩, fun i H v H' _ seq drew => ?_⟩
  obtain ⟨T, x, e1, e2, e3, at1⟩ := drew
  exact ⟨T, .int (k + ((i : Nat) : Int)), x, e1, e2, e3, rfl, at1 xs seq⟩
theorem len_anyK {X : Cx} {K : PySem.W.Frag} (h : X.K = K) : CallR X (.builtin "len") (fun xs H Q => ∃ x n, xs = [x] ∧ LenV K x H n ∧ Q (.int n) H) := by
  subst h
  exact call_len
/-! ### what isinstance asks of an instance; == by an own __eq__ -/
def insB (K : PySem.W.Frag) (C : Addr) : Bool := He.eqO (PySem.W.findIn K (.ref C) "__class__") (some (some (.builtin "object.__class__"))) && (He.eqO (PySem.W.specialIn K (.builtin "object.__class__") "__get__") (some (some (.builtin "getset_descriptor.__get__"))) &&
  (decide (PySem.W.takesIn K (.builtin "object.__class__") = some true) && decide (PySem.W.mroIn K C (.type "object") = some true)))
theorem insB_ty {K : PySem.W.Frag} {C : Addr} (ok : insB K C = true) (cl : Cls K C) {H : Hp} {a dx : Addr} {fs : List (Str × V)} (e : H a = some (.ins C dx fs)) : TyX K H (.ref a) (.ref C) := by
  obtain ⟨c1, ok⟩ := He.ba ok
  obtain ⟨c2, ok⟩ := He.ba ok
  obtain ⟨c3, c4⟩ := He.ba ok
  exact .base (.ins e cl (He.eqO_ok c1) (He.eqO_ok c2) (of_decide_eq_true c3) (of_decide_eq_true c4))
theorem kit_own {K : PySem.W.Frag} {C : Addr} : PySem.W.kitOne K (.ref C) (.ref C) = some true := by
  unfold PySem.W.kitOne
  exact if_pos (by simp)
theorem op_eqIns {X : Cx} {k j : Nat} {C : Addr} {R : Addr → Addr → Hp → Prop} (c : C8.Met X.prog X.w X.K X.mg X.base k C "__eq__" (spEq R) []) (room : Room j X.A) (hk : k ≤ j) : OpR X (compareOp .Eq) (rEqG (DIns C R)) := by
  obtain ⟨f, fd, ps, ds, cl, me, F, b, d⟩ := c.ex
  cases d
  exact op_eqG (rcG_ins (E := C8.E0) F me.at_ me.fn b C8.pass0) (room.mono hk)
theorem list_indexK {X : Cx} {K : PySem.W.Frag} (h : X.K = K) : MtR X "list.index" (rIndex K) := by subst h; exact mt_index
/-! ### dicts of the top: the Hook, and what their items are -/
abbrev AlK : Type := He.AlD × Bool × List (Option (List (Option (Str × Int))))
def tabsOf (ts : List He.Tab) (K : PySem.W.Frag) : List (Option (List (Option (Str × Int)))) := ts.map fun t => He.dicW K (t.1 K)
def tabsDue (ts : List He.Tab) (w : World) : List (Option (List (Option (Str × Int)))) := ts.map fun t => some (He.keysIn w.params t.2)
def obsDG3 (n : Nat) (fa : List He.Fa) (fn : List He.DefD) (ex : PySem.W.Frag → Bool) (ts : List He.Tab) (g : Addr → Option Obj) : AlK := (fun K => (He.obsD fa fn K, ex K, tabsOf ts K)) (He.frG g (He.asD g n))
def hookD3 (n : Nat) (fa : List He.Fa) (fn : List He.DefD) (ex : PySem.W.Frag → Bool) (ts : List He.Tab) : PySem.W.Hook where
  α := AlK
  obs := fun s => obsDG3 n fa fn ex ts s.heap.get?
  val := fun w => (He.valD fn, true, tabsDue ts w)
  says := fun w h => ∃ K : PySem.W.Frag, K.In h ∧ (He.SaysD fa fn K ∧ ex K = true) ∧ tabsOf ts K = tabsDue ts w
  of := fun _ _ e => ⟨_, He.frG_in, ⟨congrArg (fun z : AlK => z.1) e, congrArg (fun z : AlK => z.2.1) e⟩, congrArg (fun z : AlK => z.2.2) e⟩
  keeps := fun _ _ _ ⟨F, inF, both⟩ more => ⟨F, PySem.W.Frag.In.keeps inF more, both⟩
theorem obsDG3_eq {n : Nat} {fa : List He.Fa} {fn : List He.DefD} {ex : PySem.W.Frag → Bool} {ts : List He.Tab} {g : Addr → Option Obj} {s : Shared} (h : ∀ a, g a = s.heap.get? a) : obsDG3 n fa fn ex ts g = (hookD3 n fa fn ex ts).obs s := by
  have look : g = s.heap.get? := funext fun a => h a
  rw [look]
  rfl
theorem tab_ix {ts : List He.Tab} {K : PySem.W.Frag} {w : World} (h : tabsOf ts K = tabsDue ts w) (i : Nat) {t : He.Tab} (e : ts[i]? = some t) : ∃ es n, KDict K w (t.1 K) es n := by
  have e2 : (tabsOf ts K)[i]? = (tabsDue ts w)[i]? := by rw [h]
  unfold tabsOf tabsDue at e2
  rw [List.getElem?_map, List.getElem?_map, e] at e2
  exact He.dicW_ok (Option.some.inj e2)
def rInKD (K : PySem.W.Frag) (d : Addr) : R2 := fun x y H Q => ∃ (z : Str) (r : Option Value), x = .str z ∧ y = .ref d ∧ PySem.W.nsIn K d z = some r ∧ Q (.bl r.isSome) H
theorem op_inKD {X : Cx} {K : PySem.W.Frag} {w : World} {d : Addr} (h : X.K = K) (hw : X.w = w) (D : ∃ es n, KDict K w d es n) : OpR X (compareOp .In) (rInKD K d) := by
  subst h hw
  obtain ⟨es, n, D⟩ := D
  exact op_in_kd D
theorem ix_kdictK {X : Cx} {K : PySem.W.Frag} {w : World} (h : X.K = K) (hw : X.w = w) : IxR X (rIxD K w) := by
  subst h hw
  exact ix_kdict
theorem kdct_of {K : PySem.W.Frag} {w : World} {d : Addr} {z : Str} {u : Value} {v : V} (D : ∃ es n, KDict K w d es n) (e : PySem.W.nsIn K d z = some (some u)) (q : RelV v u) : KDct K w d z v := by
  obtain ⟨es, n, D⟩ := D
  exact ⟨es, n, u, D.at_, D.lit, e, q⟩
/-! ### f(a=.., b=..): both arguments by name, as they stand -/
def kwI {α : Type} (us ws : List α) : List α := match us, ws with
  | [], [x, y] => [x, y]
  | _, _ => []
structure CalKI (P : Program) (w : World) (K : PySem.W.Frag) (mg : Str → Option Value) (base : Heap) (k : Nat) (x : Str) (sp : Sp) (p1 p2 : Str) : Prop where
  ex : ∃ (f : Addr) (fd : FuncData), FnOk P w K mg base C8.CX0 k f fd [p1, p2] sp ∧ mg x = some (.ref f) ∧ PySem.W.keepIn K (.ref f) = true ∧ KBinds K fd [p1, p2] [p1, p2] kwI kwI
theorem kwi_of {K : PySem.W.Frag} {x qual : Str} {params : Arguments} {body : List Stmt} {scope : Scope} {kws : List (Str × V)} {f : Addr} {fd : FuncData} {p1 p2 : Str} (F : FunD K x qual params body scope [] kws f fd)
    (turn : ∀ (kV doc pm : Value) (an : Option Addr) (cdv ct : Value) (u v : Value), bindArgs (PySem.W.fnOf x qual params body scope .none kV doc pm an cdv ct) ⟨[], [(p1, u), (p2, v)]⟩ = pure [(p1, u), (p2, v)]) : KBinds K fd [p1, p2] [p1, p2] kwI kwI := by
  obtain ⟨oc, od, dV, kV, doc, pm, an, cdv, ct, osl, isF, lk, hcd, dflt, hK⟩ := F.ex
  subst isF
  rcases dflt with ⟨_, no⟩ | ⟨e, _⟩
  · subst no
    refine ⟨fun s us ws X hl => ?_, fun {vs us zs ws} r1 r2 => ?_⟩
    · match us, ws, hl with
      | [], [u, v], _ => exact .of_eq (turn kV doc pm an cdv ct u v)
    · cases r1 with
      | cons a r1 => exact .nil
      | nil =>
        match zs, ws, r2 with
        | [], [], .nil => exact .nil
        | [_], [_], .cons a .nil => exact .nil
        | [_, _], [_, _], .cons a (.cons b .nil) => exact .cons a (.cons b .nil)
        | _ :: _ :: _ :: _, _ :: _ :: _ :: _, .cons _ (.cons _ (.cons _ _)) => exact .nil
  · exact absurd rfl e
theorem pe_kwi {X : Cx} {k j : Nat} {x p1 p2 : Str} {sp : Sp} {p pos : Pos} {kws : List Keyword} {tk : TA} (c : CalKI X.prog X.w X.K X.mg X.base k x sp p1 p2) (room : Room j X.A) (hk : k ≤ j) (hg : Gl X x) (hkw : PK X kws tk)
    (hall : (backToKw pos (keywordEach kws X.env)).all (·.1.isSome) = true := by rfl) (hks : (backToKw pos (keywordEach kws X.env)).filterMap (·.1) = [p1, p2] := by rfl) (hdb : (x == ("__debug__" : Str)) = false := by decide)
    (hpl : ((backTo pos (starEach [] X.env)).any (·.1) || (backToKw pos (keywordEach kws X.env)).any (·.1.isNone)) = false := by rfl) : PE X (.Call (.Name x p) [] kws pos) (tCallK sp kwI C8.E0 tNil tk) := by
  obtain ⟨f, fd, F, hm, kp, binds⟩ := c.ex
  refine ⟨fun pins s σ H Q I todo => wpAny_Call_Name_kw (ld_glob I hg hm ?_ hdb)⟩
  refine PySem.W.callWith_KW0 (h₀ := X.base) I.ok.mod.kin kp hall (thn (hkw.run pos pins s σ H _ I todo) fun ws s2 ⟨zs, H2, I2, rz, q2⟩ => ⟨I2.kIn, ?_⟩) hpl
  rw [hks]
  exact run_fnk (us := []) F (room.mono hk) binds C8.pass0 I2 .nil rz q2
end My
set_option maxHeartbeats 0
namespace K15
open PySem PySem.Spec PyProof.Rows L2
def top (i : Nat) : Stmt := PySem.Challenge.pw_lockerwall_k15_whole_read_books_played.main.body.getD i (.Pass ⟨0, 0, 0, 0⟩)
abbrev s_wall : Stmt := top 0
abbrev N_wall : List Str := ["k"]
theorem sc_wall : FnScope N_wall ["k"] (defScope s_wall) := C8.fnScope_by (by decide +kernel)
def d_wall : He.DefD := ⟨("_wall", none), "_wall", "_wall", defArgs s_wall, defBody s_wall, defScope s_wall, [], []⟩
abbrev s_is_integer_within : Stmt := top 2
abbrev N_is_integer_within : List Str := ["value", "low", "high"]
theorem sc_is_integer_within : FnScope N_is_integer_within ["value", "low", "high"] (defScope s_is_integer_within) := C8.fnScope_by (by decide +kernel)
def d_is_integer_within : He.DefD := ⟨("is_integer_within", none), "is_integer_within", "is_integer_within", defArgs s_is_integer_within, defBody s_is_integer_within, defScope s_is_integer_within, [], []⟩
abbrev s_is_truth : Stmt := top 3
abbrev N_is_truth : List Str := ["value"]
theorem sc_is_truth : FnScope N_is_truth ["value"] (defScope s_is_truth) := C8.fnScope_by (by decide +kernel)
def d_is_truth : He.DefD := ⟨("is_truth", none), "is_truth", "is_truth", defArgs s_is_truth, defBody s_is_truth, defScope s_is_truth, [], []⟩
abbrev s_is_word : Stmt := top 4
abbrev N_is_word : List Str := ["value", "words"]
theorem sc_is_word : FnScope N_is_word ["value", "words"] (defScope s_is_word) := C8.fnScope_by (by decide +kernel)
def d_is_word : He.DefD := ⟨("is_word", none), "is_word", "is_word", defArgs s_is_word, defBody s_is_word, defScope s_is_word, [], []⟩
abbrev s_are_distinct_words : Stmt := top 5
abbrev N_are_distinct_words : List Str := ["value", "words", "item"]
theorem sc_are_distinct_words : FnScope N_are_distinct_words ["value", "words"] (defScope s_are_distinct_words) := C8.fnScope_by (by decide +kernel)
def d_are_distinct_words : He.DefD := ⟨("are_distinct_words", none), "are_distinct_words", "are_distinct_words", defArgs s_are_distinct_words, defBody s_are_distinct_words, defScope s_are_distinct_words, [], []⟩
abbrev s_is_rule : Stmt := top 20
abbrev N_is_rule : List Str := ["value", "action"]
theorem sc_is_rule : FnScope N_is_rule ["value"] (defScope s_is_rule) := C8.fnScope_by (by decide +kernel)
def d_is_rule : He.DefD := ⟨("is_rule", none), "is_rule", "is_rule", defArgs s_is_rule, defBody s_is_rule, defScope s_is_rule, [], []⟩
abbrev s_Book_init : Stmt := inClass (top 21) 0
abbrev N_Book_init : List Str := ["self", "days", "given", "laid", "left", "opened", "taken", "gone", "late", "power", "rules", "moment", "rule"]
theorem sc_Book_init : FnScope N_Book_init ["self", "days", "given", "laid", "left", "opened", "taken", "gone", "late", "power"] (defScope s_Book_init) := C8.fnScope_by (by decide +kernel)
def d_Book_init : He.DefD := ⟨("Book", some "__init__"), "__init__", "Book.__init__", defArgs s_Book_init, defBody s_Book_init, defScope s_Book_init, [.adr (He.dflAt ("Book", some "__init__") 0), .adr (He.dflAt ("Book", some "__init__") 1), .adr (He.dflAt ("Book", some "__init__") 2), .adr (He.dflAt ("Book", some "__init__") 3), .adr (He.dflAt ("Book", some "__init__") 4), .adr (He.dflAt ("Book", some "__init__") 5), .adr (He.dflAt ("Book", some "__init__") 6), .adr (He.dflAt ("Book", some "__init__") 7)], []⟩
abbrev s_Book_eq : Stmt := inClass (top 21) 1
abbrev N_Book_eq : List Str := ["self", "other"]
theorem sc_Book_eq : FnScope N_Book_eq ["self", "other"] (defScope s_Book_eq) := C8.fnScope_by (by decide +kernel)
def d_Book_eq : He.DefD := ⟨("Book", some "__eq__"), "__eq__", "Book.__eq__", defArgs s_Book_eq, defBody s_Book_eq, defScope s_Book_eq, [], []⟩
abbrev s_Book_days : Stmt := inClass (top 21) 2
abbrev N_Book_days : List Str := ["self"]
theorem sc_Book_days : FnScope N_Book_days ["self"] (defScope s_Book_days) := C8.fnScope_by (by decide +kernel)
def d_Book_days : He.DefD := ⟨("Book", some "days"), "days", "Book.days", defArgs s_Book_days, defBody s_Book_days, defScope s_Book_days, [], []⟩
abbrev s_Book_rule : Stmt := inClass (top 21) 3
abbrev N_Book_rule : List Str := ["self", "moment"]
theorem sc_Book_rule : FnScope N_Book_rule ["self", "moment"] (defScope s_Book_rule) := C8.fnScope_by (by decide +kernel)
def d_Book_rule : He.DefD := ⟨("Book", some "rule"), "rule", "Book.rule", defArgs s_Book_rule, defBody s_Book_rule, defScope s_Book_rule, [], []⟩
abbrev s_Book_rules : Stmt := inClass (top 21) 4
abbrev N_Book_rules : List Str := ["self"]
theorem sc_Book_rules : FnScope N_Book_rules ["self"] (defScope s_Book_rules) := C8.fnScope_by (by decide +kernel)
def d_Book_rules : He.DefD := ⟨("Book", some "rules"), "rules", "Book.rules", defArgs s_Book_rules, defBody s_Book_rules, defScope s_Book_rules, [], []⟩
abbrev s_Book_with_rule : Stmt := inClass (top 21) 5
abbrev N_Book_with_rule : List Str := ["self", "moment", "rule", "rules"]
theorem sc_Book_with_rule : FnScope N_Book_with_rule ["self", "moment", "rule"] (defScope s_Book_with_rule) := C8.fnScope_by (by decide +kernel)
def d_Book_with_rule : He.DefD := ⟨("Book", some "with_rule"), "with_rule", "Book.with_rule", defArgs s_Book_with_rule, defBody s_Book_with_rule, defScope s_Book_with_rule, [], []⟩
abbrev s_Book_with_days : Stmt := inClass (top 21) 6
abbrev N_Book_with_days : List Str := ["self", "days", "rules"]
theorem sc_Book_with_days : FnScope N_Book_with_days ["self", "days"] (defScope s_Book_with_days) := C8.fnScope_by (by decide +kernel)
def d_Book_with_days : He.DefD := ⟨("Book", some "with_days"), "with_days", "Book.with_days", defArgs s_Book_with_days, defBody s_Book_with_days, defScope s_Book_with_days, [], []⟩
abbrev s_Book_taking : Stmt := inClass (top 21) 7
abbrev N_Book_taking : List Str := ["self", "good", "moments", "rules", "moment"]
theorem sc_Book_taking : FnScope N_Book_taking ["self", "good", "moments"] (defScope s_Book_taking) := C8.fnScope_by (by decide +kernel)
def d_Book_taking : He.DefD := ⟨("Book", some "taking"), "taking", "Book.taking", defArgs s_Book_taking, defBody s_Book_taking, defScope s_Book_taking, [], []⟩
abbrev s_are_truths : Stmt := top 25
abbrev N_are_truths : List Str := ["values", "value"]
theorem sc_are_truths : FnScope N_are_truths ["values"] (defScope s_are_truths) := C8.fnScope_by (by decide +kernel)
def d_are_truths : He.DefD := ⟨("are_truths", none), "are_truths", "are_truths", defArgs s_are_truths, defBody s_are_truths, defScope s_are_truths, [], []⟩
abbrev s_is_deed : Stmt := top 26
abbrev N_is_deed : List Str := ["value", "word"]
theorem sc_is_deed : FnScope N_is_deed ["value"] (defScope s_is_deed) := C8.fnScope_by (by decide +kernel)
def d_is_deed : He.DefD := ⟨("is_deed", none), "is_deed", "is_deed", defArgs s_is_deed, defBody s_is_deed, defScope s_is_deed, [], []⟩
abbrev s_check_are_deeds : Stmt := top 27
abbrev N_check_are_deeds : List Str := ["deeds", "index", "deed"]
theorem sc_check_are_deeds : FnScope N_check_are_deeds ["deeds"] (defScope s_check_are_deeds) := C8.fnScope_by (by decide +kernel)
def d_check_are_deeds : He.DefD := ⟨("check_are_deeds", none), "check_are_deeds", "check_are_deeds", defArgs s_check_are_deeds, defBody s_check_are_deeds, defScope s_check_are_deeds, [], []⟩
abbrev s_check_playable : Stmt := top 28
abbrev N_check_playable : List Str := ["deeds", "brought", "index", "deed"]
theorem sc_check_playable : FnScope N_check_playable ["deeds"] (defScope s_check_playable) := C8.fnScope_by (by decide +kernel)
def d_check_playable : He.DefD := ⟨("check_playable", none), "check_playable", "check_playable", defArgs s_check_playable, defBody s_check_playable, defScope s_check_playable, [], []⟩
abbrev s_book_text : Stmt := top 34
abbrev N_book_text : List Str := ["book", "lines", "moment", "rule"]
theorem sc_book_text : FnScope N_book_text ["book"] (defScope s_book_text) := C8.fnScope_by (by decide +kernel)
def d_book_text : He.DefD := ⟨("book_text", none), "book_text", "book_text", defArgs s_book_text, defBody s_book_text, defScope s_book_text, [], []⟩
abbrev s_read_book : Stmt := top 35
abbrev N_read_book : List Str := ["text", "lines", "days", "rules", "at", "moment", "rule"]
theorem sc_read_book : FnScope N_read_book ["text"] (defScope s_read_book) := C8.fnScope_by (by decide +kernel)
def d_read_book : He.DefD := ⟨("read_book", none), "read_book", "read_book", defArgs s_read_book, defBody s_read_book, defScope s_read_book, [], []⟩
abbrev s_deeds_text : Stmt := top 36
abbrev N_deeds_text : List Str := ["deeds", "deed"]
theorem sc_deeds_text : FnScope N_deeds_text ["deeds"] (defScope s_deeds_text) := C8.fnScope_by (by decide +kernel)
def d_deeds_text : He.DefD := ⟨("deeds_text", none), "deeds_text", "deeds_text", defArgs s_deeds_text, defBody s_deeds_text, defScope s_deeds_text, [], []⟩
abbrev s_read_deeds : Stmt := top 37
abbrev N_read_deeds : List Str := ["text", "lines", "deeds", "at", "line", "deed"]
theorem sc_read_deeds : FnScope N_read_deeds ["text"] (defScope s_read_deeds) := C8.fnScope_by (by decide +kernel)
def d_read_deeds : He.DefD := ⟨("read_deeds", none), "read_deeds", "read_deeds", defArgs s_read_deeds, defBody s_read_deeds, defScope s_read_deeds, [], []⟩
abbrev s_lines_of : Stmt := top 38
abbrev N_lines_of : List Str := ["text"]
theorem sc_lines_of : FnScope N_lines_of ["text"] (defScope s_lines_of) := C8.fnScope_by (by decide +kernel)
def d_lines_of : He.DefD := ⟨("lines_of", none), "lines_of", "lines_of", defArgs s_lines_of, defBody s_lines_of, defScope s_lines_of, [], []⟩
abbrev s_read_number : Stmt := top 39
abbrev N_read_number : List Str := ["figures", "most", "figure"]
theorem sc_read_number : FnScope N_read_number ["figures", "most"] (defScope s_read_number) := C8.fnScope_by (by decide +kernel)
def d_read_number : He.DefD := ⟨("read_number", none), "read_number", "read_number", defArgs s_read_number, defBody s_read_number, defScope s_read_number, [], []⟩
abbrev s_read_days : Stmt := top 40
abbrev N_read_days : List Str := ["line", "word", "_", "figures"]
theorem sc_read_days : FnScope N_read_days ["line"] (defScope s_read_days) := C8.fnScope_by (by decide +kernel)
def d_read_days : He.DefD := ⟨("read_days", none), "read_days", "read_days", defArgs s_read_days, defBody s_read_days, defScope s_read_days, [], []⟩
abbrev s_read_rule : Stmt := top 41
abbrev N_read_rule : List Str := ["line", "moment", "words", "rule"]
theorem sc_read_rule : FnScope N_read_rule ["line", "moment"] (defScope s_read_rule) := C8.fnScope_by (by decide +kernel)
def d_read_rule : He.DefD := ⟨("read_rule", none), "read_rule", "read_rule", defArgs s_read_rule, defBody s_read_rule, defScope s_read_rule, [], []⟩
abbrev s_read_deed : Stmt := top 42
abbrev N_read_deed : List Str := ["line", "words", "word", "more", "parcel"]
theorem sc_read_deed : FnScope N_read_deed ["line"] (defScope s_read_deed) := C8.fnScope_by (by decide +kernel)
def d_read_deed : He.DefD := ⟨("read_deed", none), "read_deed", "read_deed", defArgs s_read_deed, defBody s_read_deed, defScope s_read_deed, [], []⟩
abbrev s_deed_line : Stmt := top 43
abbrev N_deed_line : List Str := ["deed", "word"]
theorem sc_deed_line : FnScope N_deed_line ["deed"] (defScope s_deed_line) := C8.fnScope_by (by decide +kernel)
def d_deed_line : He.DefD := ⟨("deed_line", none), "deed_line", "deed_line", defArgs s_deed_line, defBody s_deed_line, defScope s_deed_line, [], []⟩
abbrev s_Told_init : Stmt := inClass (top 45) 0
abbrev N_Told_init : List Str := ["self"]
theorem sc_Told_init : FnScope N_Told_init ["self"] (defScope s_Told_init) := C8.fnScope_by (by decide +kernel)
def d_Told_init : He.DefD := ⟨("Told", some "__init__"), "__init__", "Told.__init__", defArgs s_Told_init, defBody s_Told_init, defScope s_Told_init, [], []⟩
abbrev s_Told_report : Stmt := inClass (top 45) 1
abbrev N_Told_report : List Str := ["self"]
theorem sc_Told_report : FnScope N_Told_report ["self"] (defScope s_Told_report) := C8.fnScope_by (by decide +kernel)
def d_Told_report : He.DefD := ⟨("Told", some "report"), "report", "Told.report", defArgs s_Told_report, defBody s_Told_report, defScope s_Told_report, [], []⟩
abbrev s_Box_init : Stmt := inClass (top 46) 0
abbrev N_Box_init : List Str := ["self"]
theorem sc_Box_init : FnScope N_Box_init ["self"] (defScope s_Box_init) := C8.fnScope_by (by decide +kernel)
def d_Box_init : He.DefD := ⟨("Box", some "__init__"), "__init__", "Box.__init__", defArgs s_Box_init, defBody s_Box_init, defScope s_Box_init, [], []⟩
abbrev s_Box_copied : Stmt := inClass (top 46) 1
abbrev N_Box_copied : List Str := ["self"]
theorem sc_Box_copied : FnScope N_Box_copied ["self"] (defScope s_Box_copied) := C8.fnScope_by (by decide +kernel)
def d_Box_copied : He.DefD := ⟨("Box", some "copied"), "copied", "Box.copied", defArgs s_Box_copied, defBody s_Box_copied, defScope s_Box_copied, [], []⟩
abbrev s_Box_stands : Stmt := inClass (top 46) 2
abbrev N_Box_stands : List Str := ["self"]
theorem sc_Box_stands : FnScope N_Box_stands ["self"] (defScope s_Box_stands) := C8.fnScope_by (by decide +kernel)
def d_Box_stands : He.DefD := ⟨("Box", some "stands"), "stands", "Box.stands", defArgs s_Box_stands, defBody s_Box_stands, defScope s_Box_stands, [], []⟩
abbrev s_Box_bring : Stmt := inClass (top 46) 3
abbrev N_Box_bring : List Str := ["self", "book", "parcel", "lays", "shuts", "told"]
theorem sc_Box_bring : FnScope N_Box_bring ["self", "book", "parcel", "lays", "shuts"] (defScope s_Box_bring) := C8.fnScope_by (by decide +kernel)
def d_Box_bring : He.DefD := ⟨("Box", some "bring"), "bring", "Box.bring", defArgs s_Box_bring, defBody s_Box_bring, defScope s_Box_bring, [], []⟩
abbrev s_Box_code : Stmt := inClass (top 46) 4
abbrev N_Box_code : List Str := ["self", "book", "parcel", "takes", "shuts", "told", "missing"]
theorem sc_Box_code : FnScope N_Box_code ["self", "book", "parcel", "takes", "shuts"] (defScope s_Box_code) := C8.fnScope_by (by decide +kernel)
def d_Box_code : He.DefD := ⟨("Box", some "code"), "code", "Box.code", defArgs s_Box_code, defBody s_Box_code, defScope s_Box_code, [], []⟩
abbrev s_Box_pass_by : Stmt := inClass (top 46) 5
abbrev N_Box_pass_by : List Str := ["self", "told"]
theorem sc_Box_pass_by : FnScope N_Box_pass_by ["self"] (defScope s_Box_pass_by) := C8.fnScope_by (by decide +kernel)
def d_Box_pass_by : He.DefD := ⟨("Box", some "pass_by"), "pass_by", "Box.pass_by", defArgs s_Box_pass_by, defBody s_Box_pass_by, defScope s_Box_pass_by, [], []⟩
abbrev s_Box_day : Stmt := inClass (top 46) 6
abbrev N_Box_day : List Str := ["self", "book", "told"]
theorem sc_Box_day : FnScope N_Box_day ["self", "book"] (defScope s_Box_day) := C8.fnScope_by (by decide +kernel)
def d_Box_day : He.DefD := ⟨("Box", some "day"), "day", "Box.day", defArgs s_Box_day, defBody s_Box_day, defScope s_Box_day, [], []⟩
abbrev s_Box_power : Stmt := inClass (top 46) 7
abbrev N_Box_power : List Str := ["self", "book", "told"]
theorem sc_Box_power : FnScope N_Box_power ["self", "book"] (defScope s_Box_power) := C8.fnScope_by (by decide +kernel)
def d_Box_power : He.DefD := ⟨("Box", some "power"), "power", "Box.power", defArgs s_Box_power, defBody s_Box_power, defScope s_Box_power, [], []⟩
abbrev s_Box_let_take : Stmt := inClass (top 46) 8
abbrev N_Box_let_take : List Str := ["self", "own", "told", "parcel"]
theorem sc_Box_let_take : FnScope N_Box_let_take ["self", "own", "told"] (defScope s_Box_let_take) := C8.fnScope_by (by decide +kernel)
def d_Box_let_take : He.DefD := ⟨("Box", some "_let_take"), "_let_take", "Box._let_take", defArgs s_Box_let_take, defBody s_Box_let_take, defScope s_Box_let_take, [], []⟩
abbrev s_Box_go_away : Stmt := inClass (top 46) 9
abbrev N_Box_go_away : List Str := ["self", "book", "shuts", "moments", "told", "when_shut", "when_left"]
theorem sc_Box_go_away : FnScope N_Box_go_away ["self", "book", "shuts", "moments", "told"] (defScope s_Box_go_away) := C8.fnScope_by (by decide +kernel)
def d_Box_go_away : He.DefD := ⟨("Box", some "_go_away"), "_go_away", "Box._go_away", defArgs s_Box_go_away, defBody s_Box_go_away, defScope s_Box_go_away, [], []⟩
abbrev s_Box_carry_out : Stmt := inClass (top 46) 10
abbrev N_Box_carry_out : List Str := ["self", "book", "moment", "told", "action"]
theorem sc_Box_carry_out : FnScope N_Box_carry_out ["self", "book", "moment", "told"] (defScope s_Box_carry_out) := C8.fnScope_by (by decide +kernel)
def d_Box_carry_out : He.DefD := ⟨("Box", some "_carry_out"), "_carry_out", "Box._carry_out", defArgs s_Box_carry_out, defBody s_Box_carry_out, defScope s_Box_carry_out, [], []⟩
abbrev s_Box_act : Stmt := inClass (top 46) 11
abbrev N_Box_act : List Str := ["self", "action", "told"]
theorem sc_Box_act : FnScope N_Box_act ["self", "action", "told"] (defScope s_Box_act) := C8.fnScope_by (by decide +kernel)
def d_Box_act : He.DefD := ⟨("Box", some "_act"), "_act", "Box._act", defArgs s_Box_act, defBody s_Box_act, defScope s_Box_act, [], []⟩
abbrev s_Box_send_code : Stmt := inClass (top 46) 12
abbrev N_Box_send_code : List Str := ["self", "told"]
theorem sc_Box_send_code : FnScope N_Box_send_code ["self", "told"] (defScope s_Box_send_code) := C8.fnScope_by (by decide +kernel)
def d_Box_send_code : He.DefD := ⟨("Box", some "_send_code"), "_send_code", "Box._send_code", defArgs s_Box_send_code, defBody s_Box_send_code, defScope s_Box_send_code, [], []⟩
abbrev s_do_deed : Stmt := top 47
abbrev N_do_deed : List Str := ["book", "box", "deed", "parcel", "word"]
theorem sc_do_deed : FnScope N_do_deed ["book", "box", "deed", "parcel"] (defScope s_do_deed) := C8.fnScope_by (by decide +kernel)
def d_do_deed : He.DefD := ⟨("do_deed", none), "do_deed", "do_deed", defArgs s_do_deed, defBody s_do_deed, defScope s_do_deed, [], []⟩
abbrev s_played : Stmt := top 49
abbrev N_played : List Str := ["book", "deeds", "box", "brought", "story", "deed"]
theorem sc_played : FnScope N_played ["book", "deeds"] (defScope s_played) := C8.fnScope_by (by decide +kernel)
def d_played : He.DefD := ⟨("played", none), "played", "played", defArgs s_played, defBody s_played, defScope s_played, [], []⟩
abbrev s_play : Stmt := top 50
abbrev N_play : List Str := ["book", "deeds", "_", "story", "told"]
theorem sc_play : FnScope N_play ["book", "deeds"] (defScope s_play) := C8.fnScope_by (by decide +kernel)
def d_play : He.DefD := ⟨("play", none), "play", "play", defArgs s_play, defBody s_play, defScope s_play, [], []⟩
abbrev s_boxes : Stmt := top 51
abbrev N_boxes : List Str := ["book", "deeds", "box", "_"]
theorem sc_boxes : FnScope N_boxes ["book", "deeds"] (defScope s_boxes) := C8.fnScope_by (by decide +kernel)
def d_boxes : He.DefD := ⟨("boxes", none), "boxes", "boxes", defArgs s_boxes, defBody s_boxes, defScope s_boxes, [], []⟩
abbrev s_law_pot : Stmt := top 53
abbrev N_law_pot : List Str := ["script", "k", "cell"]
theorem sc_law_pot : FnScope N_law_pot ["script", "k"] (defScope s_law_pot) := C8.fnScope_by (by decide +kernel)
def d_law_pot : He.DefD := ⟨("_law_pot", none), "_law_pot", "_law_pot", defArgs s_law_pot, defBody s_law_pot, defScope s_law_pot, [], []⟩
abbrev s_law_dip : Stmt := top 54
abbrev N_law_dip : List Str := ["pot", "many", "found", "mixed"]
theorem sc_law_dip : FnScope N_law_dip ["pot", "many"] (defScope s_law_dip) := C8.fnScope_by (by decide +kernel)
def d_law_dip : He.DefD := ⟨("_law_dip", none), "_law_dip", "_law_dip", defArgs s_law_dip, defBody s_law_dip, defScope s_law_dip, [], []⟩
abbrev s_law_rule : Stmt := top 55
abbrev N_law_rule : List Str := ["pot", "some", "k"]
theorem sc_law_rule : FnScope N_law_rule ["pot"] (defScope s_law_rule) := C8.fnScope_by (by decide +kernel)
def d_law_rule : He.DefD := ⟨("_law_rule", none), "_law_rule", "_law_rule", defArgs s_law_rule, defBody s_law_rule, defScope s_law_rule, [], []⟩
abbrev s_law_plan : Stmt := top 56
abbrev N_law_plan : List Str := ["pot", "k"]
theorem sc_law_plan : FnScope N_law_plan ["pot"] (defScope s_law_plan) := C8.fnScope_by (by decide +kernel)
def d_law_plan : He.DefD := ⟨("_law_plan", none), "_law_plan", "_law_plan", defArgs s_law_plan, defBody s_law_plan, defScope s_law_plan, [], []⟩
abbrev s_law_moments : Stmt := top 57
abbrev N_law_moments : List Str := []
theorem sc_law_moments : FnScope N_law_moments [] (defScope s_law_moments) := C8.fnScope_by (by decide +kernel)
def d_law_moments : He.DefD := ⟨("_law_moments", none), "_law_moments", "_law_moments", defArgs s_law_moments, defBody s_law_moments, defScope s_law_moments, [], []⟩
abbrev s_law_book : Stmt := top 58
abbrev N_law_book : List Str := ["plan", "row"]
theorem sc_law_book : FnScope N_law_book ["plan"] (defScope s_law_book) := C8.fnScope_by (by decide +kernel)
def d_law_book : He.DefD := ⟨("_law_book", none), "_law_book", "_law_book", defArgs s_law_book, defBody s_law_book, defScope s_law_book, [], []⟩
abbrev s_law_made : Stmt := top 59
abbrev N_law_made : List Str := ["pot", "plan", "way", "row", "words", "work", "k", "spot", "one", "two"]
theorem sc_law_made : FnScope N_law_made ["pot", "plan"] (defScope s_law_made) := C8.fnScope_by (by decide +kernel)
def d_law_made : He.DefD := ⟨("_law_made", none), "_law_made", "_law_made", defArgs s_law_made, defBody s_law_made, defScope s_law_made, [], []⟩
abbrev s_law_alike : Stmt := top 60
abbrev N_law_alike : List Str := ["found", "due", "k"]
theorem sc_law_alike : FnScope N_law_alike ["found", "due"] (defScope s_law_alike) := C8.fnScope_by (by decide +kernel)
def d_law_alike : He.DefD := ⟨("_law_alike", none), "_law_alike", "_law_alike", defArgs s_law_alike, defBody s_law_alike, defScope s_law_alike, [], []⟩
abbrev s_law_line : Stmt := top 61
abbrev N_law_line : List Str := ["word", "row"]
theorem sc_law_line : FnScope N_law_line ["word", "row"] (defScope s_law_line) := C8.fnScope_by (by decide +kernel)
def d_law_line : He.DefD := ⟨("_law_line", none), "_law_line", "_law_line", defArgs s_law_line, defBody s_law_line, defScope s_law_line, [], []⟩
abbrev s_law_lines : Stmt := top 62
abbrev N_law_lines : List Str := ["plan", "words", "k"]
theorem sc_law_lines : FnScope N_law_lines ["plan"] (defScope s_law_lines) := C8.fnScope_by (by decide +kernel)
def d_law_lines : He.DefD := ⟨("_law_lines", none), "_law_lines", "_law_lines", defArgs s_law_lines, defBody s_law_lines, defScope s_law_lines, [], []⟩
abbrev s_law_deed : Stmt := top 63
abbrev N_law_deed : List Str := ["pot", "way", "first", "later", "parcel"]
theorem sc_law_deed : FnScope N_law_deed ["pot"] (defScope s_law_deed) := C8.fnScope_by (by decide +kernel)
def d_law_deed : He.DefD := ⟨("_law_deed", none), "_law_deed", "_law_deed", defArgs s_law_deed, defBody s_law_deed, defScope s_law_deed, [], []⟩
abbrev s_law_deed_line : Stmt := top 64
abbrev N_law_deed_line : List Str := ["deed", "words"]
theorem sc_law_deed_line : FnScope N_law_deed_line ["deed"] (defScope s_law_deed_line) := C8.fnScope_by (by decide +kernel)
def d_law_deed_line : He.DefD := ⟨("_law_deed_line", none), "_law_deed_line", "_law_deed_line", defArgs s_law_deed_line, defBody s_law_deed_line, defScope s_law_deed_line, [], []⟩
abbrev s_law_carry : Stmt := top 65
abbrev N_law_carry : List Str := ["state", "plan", "word", "letters", "action", "one"]
theorem sc_law_carry : FnScope N_law_carry ["state", "plan", "word", "letters"] (defScope s_law_carry) := C8.fnScope_by (by decide +kernel)
def d_law_carry : He.DefD := ⟨("_law_carry", none), "_law_carry", "_law_carry", defArgs s_law_carry, defBody s_law_carry, defScope s_law_carry, [], []⟩
abbrev s_law_shut : Stmt := top 66
abbrev N_law_shut : List Str := ["state", "plan", "is_shut", "words", "letters"]
theorem sc_law_shut : FnScope N_law_shut ["state", "plan", "is_shut", "words", "letters"] (defScope s_law_shut) := C8.fnScope_by (by decide +kernel)
def d_law_shut : He.DefD := ⟨("_law_shut", none), "_law_shut", "_law_shut", defArgs s_law_shut, defBody s_law_shut, defScope s_law_shut, [], []⟩
abbrev s_law_report : Stmt := top 67
abbrev N_law_report : List Str := ["state", "plan", "act", "number", "letters", "got", "word", "opens"]
theorem sc_law_report : FnScope N_law_report ["state", "plan", "act", "number"] (defScope s_law_report) := C8.fnScope_by (by decide +kernel)
def d_law_report : He.DefD := ⟨("_law_report", none), "_law_report", "_law_report", defArgs s_law_report, defBody s_law_report, defScope s_law_report, [], []⟩
abbrev s_law_acts : Stmt := top 68
abbrev N_law_acts : List Str := ["pot", "number", "found", "many", "turn", "way", "first", "later"]
theorem sc_law_acts : FnScope N_law_acts ["pot", "number"] (defScope s_law_acts) := C8.fnScope_by (by decide +kernel)
def d_law_acts : He.DefD := ⟨("_law_acts", none), "_law_acts", "_law_acts", defArgs s_law_acts, defBody s_law_acts, defScope s_law_acts, [], []⟩
abbrev s_law_right : Stmt := top 69
abbrev N_law_right : List Str := ["pot", "plan", "usual", "work", "page", "read", "acts", "lines", "act", "got", "state", "due", "many", "stands", "told", "box", "again"]
theorem sc_law_right : FnScope N_law_right ["pot"] (defScope s_law_right) := C8.fnScope_by (by decide +kernel)
def d_law_right : He.DefD := ⟨("_law_right", none), "_law_right", "_law_right", defArgs s_law_right, defBody s_law_right, defScope s_law_right, [], []⟩
abbrev s_law : Stmt := top 70
abbrev N_law : List Str := ["script", "k"]
theorem sc_law : FnScope N_law ["script"] (defScope s_law) := C8.fnScope_by (by decide +kernel)
def d_law : He.DefD := ⟨("law", none), "law", "law", defArgs s_law, defBody s_law, defScope s_law, [], []⟩
def fa0 : List He.Fa := [.glo "_wall", .glo "is_integer_within", .glo "is_truth", .glo "is_word", .glo "are_distinct_words", .glo "is_rule", .glo "are_truths", .glo "is_deed", .glo "check_are_deeds", .glo "check_playable", .glo "book_text", .glo "read_book", .glo "deeds_text", .glo "read_deeds", .glo "lines_of", .glo "read_number", .glo "read_days", .glo "read_rule", .glo "read_deed", .glo "deed_line"]
def fa1 : List He.Fa := [.glo "do_deed", .glo "played", .glo "play", .glo "boxes", .glo "_law_pot", .glo "_law_dip", .glo "_law_rule", .glo "_law_plan", .glo "_law_moments", .glo "_law_book", .glo "_law_made", .glo "_law_alike", .glo "_law_line", .glo "_law_lines", .glo "_law_deed", .glo "_law_deed_line", .glo "_law_carry", .glo "_law_shut", .glo "_law_report", .glo "_law_acts"]
def fa2 : List He.Fa := [.glo "_law_right", .glo "law", .glo "Book", .glo "Told", .glo "Box", .glo "WallError", .glo "NoDays", .glo "NoMoments", .glo "NoRule", .glo "NoMoment", .glo "NoDeed", .glo "NoParcel", .glo "NoText", .glo "ACTIONS", .glo "MOMENTS", .int "MOST_ACTIONS" 6, .int "MOST_DAYS" 30, .int "MOST_PARCEL" 1000000000, .glo "SINGLE_WORDS", .str "FIGURES" "0123456789"]
def fa3 : List He.Fa := [.glo "LAYS", .glo "TAKES", .glo "SHUTS", .free "len", .free "abs", .free "max", .free "min", .free "isinstance", .free "all", .free "any", .free "sorted", .free "zip", .free "enumerate", .free "super", .free "ValueError", .free "int", .free "str", .free "bool", .free "list", .free "tuple"]
def fa4 : List He.Fa := [.free "set", .free "range", .cls "Book", .noat "Book" "_days", .noat "Book" "_rules", .meth "Book" "__eq__", .meth "Book" "days", .meth "Book" "rule", .meth "Book" "rules", .meth "Book" "with_rule", .meth "Book" "with_days", .meth "Book" "taking", .mkr "Book", .cls "Told", .noat "Told" "letters", .noat "Told" "opened", .noat "Told" "got", .noat "Told" "lays", .noat "Told" "wrongs", .noat "Told" "moments"]
def fa5 : List He.Fa := [.meth "Told" "report", .mkr "Told", .cls "Box", .noat "Box" "ajar", .noat "Box" "inside", .noat "Box" "taken_for", .noat "Box" "valid", .noat "Box" "age", .noat "Box" "last", .noat "Box" "sent", .noat "Box" "served", .meth "Box" "copied", .meth "Box" "stands", .meth "Box" "bring", .meth "Box" "code", .meth "Box" "pass_by", .meth "Box" "day", .meth "Box" "power", .meth "Box" "_let_take", .meth "Box" "_go_away"]
def fa6 : List He.Fa := [.meth "Box" "_carry_out", .meth "Box" "_act", .meth "Box" "_send_code", .mkr "Box"]
def fa : List He.Fa := fa0 ++ fa1 ++ fa2 ++ fa3 ++ fa4 ++ fa5 ++ fa6
def fn0 : List He.DefD := [d_wall, d_is_integer_within, d_is_truth, d_is_word, d_are_distinct_words, d_is_rule, d_Book_init, d_Book_eq, d_Book_days, d_Book_rule, d_Book_rules, d_Book_with_rule, d_Book_with_days, d_Book_taking, d_are_truths, d_is_deed, d_check_are_deeds, d_check_playable, d_book_text, d_read_book]
def fn1 : List He.DefD := [d_deeds_text, d_read_deeds, d_lines_of, d_read_number, d_read_days, d_read_rule, d_read_deed, d_deed_line, d_Told_init, d_Told_report, d_Box_init, d_Box_copied, d_Box_stands, d_Box_bring, d_Box_code, d_Box_pass_by, d_Box_day, d_Box_power, d_Box_let_take, d_Box_go_away]
def fn2 : List He.DefD := [d_Box_carry_out, d_Box_act, d_Box_send_code, d_do_deed, d_played, d_play, d_boxes, d_law_pot, d_law_dip, d_law_rule, d_law_plan, d_law_moments, d_law_book, d_law_made, d_law_alike, d_law_line, d_law_lines, d_law_deed, d_law_deed_line, d_law_carry]
def fn3 : List He.DefD := [d_law_shut, d_law_report, d_law_acts, d_law_right, d_law]
def fn : List He.DefD := fn0 ++ fn1 ++ fn2 ++ fn3
def ts : List He.Tab := [(fun K => He.ga K "LAYS", ["lay", "bare"]), (fun K => He.ga K "TAKES", ["take", "leave"]), (fun K => He.ga K "SHUTS", ["shut", "ajar"])]
def exl (K : PySem.W.Frag) : List Bool := [My.tupAt K (He.ga K "ACTIONS") [.str "free", .str "full", .str "off", .str "code", .str "void", .str "look", .str "lock"], My.tupAt K (He.ga K "MOMENTS") [.str "given", .str "laid", .str "left", .str "opened", .str "taken", .str "gone", .str "late", .str "power"], My.tupAt K (He.ga K "SINGLE_WORDS") [.str "pass", .str "day", .str "power"], My.tupAt K (He.dflAt ("Book", some "__init__") 0 K) [], My.tupAt K (He.dflAt ("Book", some "__init__") 1 K) [], My.tupAt K (He.dflAt ("Book", some "__init__") 2 K) [], My.tupAt K (He.dflAt ("Book", some "__init__") 3 K) [], My.tupAt K (He.dflAt ("Book", some "__init__") 4 K) [], My.tupAt K (He.dflAt ("Book", some "__init__") 5 K) [], My.tupAt K (He.dflAt ("Book", some "__init__") 6 K) [], My.tupAt K (He.dflAt ("Book", some "__init__") 7 K) [], My.insB K (He.ga K "Book"), He.eqO (PySem.W.nsIn K (He.ga K "LAYS") "lay") (some (some (.bool true))), He.eqO (PySem.W.nsIn K (He.ga K "LAYS") "bare") (some (some (.bool false))), He.eqO (PySem.W.nsIn K (He.ga K "TAKES") "take") (some (some (.bool true))), He.eqO (PySem.W.nsIn K (He.ga K "TAKES") "leave") (some (some (.bool false))), He.eqO (PySem.W.nsIn K (He.ga K "SHUTS") "shut") (some (some (.bool true))), He.eqO (PySem.W.nsIn K (He.ga K "SHUTS") "ajar") (some (some (.bool false)))]
def ex (K : PySem.W.Frag) : Bool := (exl K).all id
structure Txt (w : World) (K : PySem.W.Frag) (mg : Str → Option Value) : Prop where
  ex : ∃ h : Heap, K.In h ∧ h.Ns mainGlobals mg ∧ He.SaysD fa fn K ∧ ex K = true
  tabs : My.tabsOf ts K = My.tabsDue ts w
section
variable {w : World} {K : PySem.W.Frag} {mg : Str → Option Value}
theorem Txt.g_wall (T : Txt w K mg) : mg "_wall" = some (.ref (He.ga K "_wall")) := by
  obtain ⟨h, X, G, c, _⟩ := T.ex
  exact He.glo_ok X G (c.fact 0 rfl)
theorem Txt.g_is_integer_within (T : Txt w K mg) : mg "is_integer_within" = some (.ref (He.ga K "is_integer_within")) := by
  obtain ⟨h, X, G, c, _⟩ := T.ex
  exact He.glo_ok X G (c.fact 1 rfl)
theorem Txt.g_is_truth (T : Txt w K mg) : mg "is_truth" = some (.ref (He.ga K "is_truth")) := by
  obtain ⟨h, X, G, c, _⟩ := T.ex
  exact He.glo_ok X G (c.fact 2 rfl)
theorem Txt.g_is_word (T : Txt w K mg) : mg "is_word" = some (.ref (He.ga K "is_word")) := by
  obtain ⟨h, X, G, c, _⟩ := T.ex
  exact He.glo_ok X G (c.fact 3 rfl)
theorem Txt.g_are_distinct_words (T : Txt w K mg) : mg "are_distinct_words" = some (.ref (He.ga K "are_distinct_words")) := by
  obtain ⟨h, X, G, c, _⟩ := T.ex
  exact He.glo_ok X G (c.fact 4 rfl)
theorem Txt.g_is_rule (T : Txt w K mg) : mg "is_rule" = some (.ref (He.ga K "is_rule")) := by
  obtain ⟨h, X, G, c, _⟩ := T.ex
  exact He.glo_ok X G (c.fact 5 rfl)
theorem Txt.g_are_truths (T : Txt w K mg) : mg "are_truths" = some (.ref (He.ga K "are_truths")) := by
  obtain ⟨h, X, G, c, _⟩ := T.ex
  exact He.glo_ok X G (c.fact 6 rfl)
theorem Txt.g_is_deed (T : Txt w K mg) : mg "is_deed" = some (.ref (He.ga K "is_deed")) := by
  obtain ⟨h, X, G, c, _⟩ := T.ex
  exact He.glo_ok X G (c.fact 7 rfl)
theorem Txt.g_check_are_deeds (T : Txt w K mg) : mg "check_are_deeds" = some (.ref (He.ga K "check_are_deeds")) := by
  obtain ⟨h, X, G, c, _⟩ := T.ex
  exact He.glo_ok X G (c.fact 8 rfl)
theorem Txt.g_check_playable (T : Txt w K mg) : mg "check_playable" = some (.ref (He.ga K "check_playable")) := by
  obtain ⟨h, X, G, c, _⟩ := T.ex
  exact He.glo_ok X G (c.fact 9 rfl)
theorem Txt.g_book_text (T : Txt w K mg) : mg "book_text" = some (.ref (He.ga K "book_text")) := by
  obtain ⟨h, X, G, c, _⟩ := T.ex
  exact He.glo_ok X G (c.fact 10 rfl)
theorem Txt.g_read_book (T : Txt w K mg) : mg "read_book" = some (.ref (He.ga K "read_book")) := by
  obtain ⟨h, X, G, c, _⟩ := T.ex
  exact He.glo_ok X G (c.fact 11 rfl)
theorem Txt.g_deeds_text (T : Txt w K mg) : mg "deeds_text" = some (.ref (He.ga K "deeds_text")) := by
  obtain ⟨h, X, G, c, _⟩ := T.ex
  exact He.glo_ok X G (c.fact 12 rfl)
theorem Txt.g_read_deeds (T : Txt w K mg) : mg "read_deeds" = some (.ref (He.ga K "read_deeds")) := by
  obtain ⟨h, X, G, c, _⟩ := T.ex
  exact He.glo_ok X G (c.fact 13 rfl)
theorem Txt.g_lines_of (T : Txt w K mg) : mg "lines_of" = some (.ref (He.ga K "lines_of")) := by
  obtain ⟨h, X, G, c, _⟩ := T.ex
  exact He.glo_ok X G (c.fact 14 rfl)
theorem Txt.g_read_number (T : Txt w K mg) : mg "read_number" = some (.ref (He.ga K "read_number")) := by
  obtain ⟨h, X, G, c, _⟩ := T.ex
  exact He.glo_ok X G (c.fact 15 rfl)
theorem Txt.g_read_days (T : Txt w K mg) : mg "read_days" = some (.ref (He.ga K "read_days")) := by
  obtain ⟨h, X, G, c, _⟩ := T.ex
  exact He.glo_ok X G (c.fact 16 rfl)
theorem Txt.g_read_rule (T : Txt w K mg) : mg "read_rule" = some (.ref (He.ga K "read_rule")) := by
  obtain ⟨h, X, G, c, _⟩ := T.ex
  exact He.glo_ok X G (c.fact 17 rfl)
theorem Txt.g_read_deed (T : Txt w K mg) : mg "read_deed" = some (.ref (He.ga K "read_deed")) := by
  obtain ⟨h, X, G, c, _⟩ := T.ex
  exact He.glo_ok X G (c.fact 18 rfl)
theorem Txt.g_deed_line (T : Txt w K mg) : mg "deed_line" = some (.ref (He.ga K "deed_line")) := by
  obtain ⟨h, X, G, c, _⟩ := T.ex
  exact He.glo_ok X G (c.fact 19 rfl)
theorem Txt.g_do_deed (T : Txt w K mg) : mg "do_deed" = some (.ref (He.ga K "do_deed")) := by
  obtain ⟨h, X, G, c, _⟩ := T.ex
  exact He.glo_ok X G (c.fact 20 rfl)
theorem Txt.g_played (T : Txt w K mg) : mg "played" = some (.ref (He.ga K "played")) := by
  obtain ⟨h, X, G, c, _⟩ := T.ex
  exact He.glo_ok X G (c.fact 21 rfl)
theorem Txt.g_play (T : Txt w K mg) : mg "play" = some (.ref (He.ga K "play")) := by
  obtain ⟨h, X, G, c, _⟩ := T.ex
  exact He.glo_ok X G (c.fact 22 rfl)
theorem Txt.g_boxes (T : Txt w K mg) : mg "boxes" = some (.ref (He.ga K "boxes")) := by
  obtain ⟨h, X, G, c, _⟩ := T.ex
  exact He.glo_ok X G (c.fact 23 rfl)
theorem Txt.g_law_pot (T : Txt w K mg) : mg "_law_pot" = some (.ref (He.ga K "_law_pot")) := by
  obtain ⟨h, X, G, c, _⟩ := T.ex
  exact He.glo_ok X G (c.fact 24 rfl)
theorem Txt.g_law_dip (T : Txt w K mg) : mg "_law_dip" = some (.ref (He.ga K "_law_dip")) := by
  obtain ⟨h, X, G, c, _⟩ := T.ex
  exact He.glo_ok X G (c.fact 25 rfl)
theorem Txt.g_law_rule (T : Txt w K mg) : mg "_law_rule" = some (.ref (He.ga K "_law_rule")) := by
  obtain ⟨h, X, G, c, _⟩ := T.ex
  exact He.glo_ok X G (c.fact 26 rfl)
theorem Txt.g_law_plan (T : Txt w K mg) : mg "_law_plan" = some (.ref (He.ga K "_law_plan")) := by
  obtain ⟨h, X, G, c, _⟩ := T.ex
  exact He.glo_ok X G (c.fact 27 rfl)
theorem Txt.g_law_moments (T : Txt w K mg) : mg "_law_moments" = some (.ref (He.ga K "_law_moments")) := by
  obtain ⟨h, X, G, c, _⟩ := T.ex
  exact He.glo_ok X G (c.fact 28 rfl)
theorem Txt.g_law_book (T : Txt w K mg) : mg "_law_book" = some (.ref (He.ga K "_law_book")) := by
  obtain ⟨h, X, G, c, _⟩ := T.ex
  exact He.glo_ok X G (c.fact 29 rfl)
theorem Txt.g_law_made (T : Txt w K mg) : mg "_law_made" = some (.ref (He.ga K "_law_made")) := by
  obtain ⟨h, X, G, c, _⟩ := T.ex
  exact He.glo_ok X G (c.fact 30 rfl)
theorem Txt.g_law_alike (T : Txt w K mg) : mg "_law_alike" = some (.ref (He.ga K "_law_alike")) := by
  obtain ⟨h, X, G, c, _⟩ := T.ex
  exact He.glo_ok X G (c.fact 31 rfl)
theorem Txt.g_law_line (T : Txt w K mg) : mg "_law_line" = some (.ref (He.ga K "_law_line")) := by
  obtain ⟨h, X, G, c, _⟩ := T.ex
  exact He.glo_ok X G (c.fact 32 rfl)
theorem Txt.g_law_lines (T : Txt w K mg) : mg "_law_lines" = some (.ref (He.ga K "_law_lines")) := by
  obtain ⟨h, X, G, c, _⟩ := T.ex
  exact He.glo_ok X G (c.fact 33 rfl)
theorem Txt.g_law_deed (T : Txt w K mg) : mg "_law_deed" = some (.ref (He.ga K "_law_deed")) := by
  obtain ⟨h, X, G, c, _⟩ := T.ex
  exact He.glo_ok X G (c.fact 34 rfl)
theorem Txt.g_law_deed_line (T : Txt w K mg) : mg "_law_deed_line" = some (.ref (He.ga K "_law_deed_line")) := by
  obtain ⟨h, X, G, c, _⟩ := T.ex
  exact He.glo_ok X G (c.fact 35 rfl)
theorem Txt.g_law_carry (T : Txt w K mg) : mg "_law_carry" = some (.ref (He.ga K "_law_carry")) := by
  obtain ⟨h, X, G, c, _⟩ := T.ex
  exact He.glo_ok X G (c.fact 36 rfl)
theorem Txt.g_law_shut (T : Txt w K mg) : mg "_law_shut" = some (.ref (He.ga K "_law_shut")) := by
  obtain ⟨h, X, G, c, _⟩ := T.ex
  exact He.glo_ok X G (c.fact 37 rfl)
theorem Txt.g_law_report (T : Txt w K mg) : mg "_law_report" = some (.ref (He.ga K "_law_report")) := by
  obtain ⟨h, X, G, c, _⟩ := T.ex
  exact He.glo_ok X G (c.fact 38 rfl)
theorem Txt.g_law_acts (T : Txt w K mg) : mg "_law_acts" = some (.ref (He.ga K "_law_acts")) := by
  obtain ⟨h, X, G, c, _⟩ := T.ex
  exact He.glo_ok X G (c.fact 39 rfl)
theorem Txt.g_law_right (T : Txt w K mg) : mg "_law_right" = some (.ref (He.ga K "_law_right")) := by
  obtain ⟨h, X, G, c, _⟩ := T.ex
  exact He.glo_ok X G (c.fact 40 rfl)
theorem Txt.g_law (T : Txt w K mg) : mg "law" = some (.ref (He.ga K "law")) := by
  obtain ⟨h, X, G, c, _⟩ := T.ex
  exact He.glo_ok X G (c.fact 41 rfl)
theorem Txt.g_Book (T : Txt w K mg) : mg "Book" = some (.ref (He.ga K "Book")) := by
  obtain ⟨h, X, G, c, _⟩ := T.ex
  exact He.glo_ok X G (c.fact 42 rfl)
theorem Txt.g_Told (T : Txt w K mg) : mg "Told" = some (.ref (He.ga K "Told")) := by
  obtain ⟨h, X, G, c, _⟩ := T.ex
  exact He.glo_ok X G (c.fact 43 rfl)
theorem Txt.g_Box (T : Txt w K mg) : mg "Box" = some (.ref (He.ga K "Box")) := by
  obtain ⟨h, X, G, c, _⟩ := T.ex
  exact He.glo_ok X G (c.fact 44 rfl)
theorem Txt.g_WallError (T : Txt w K mg) : mg "WallError" = some (.ref (He.ga K "WallError")) := by
  obtain ⟨h, X, G, c, _⟩ := T.ex
  exact He.glo_ok X G (c.fact 45 rfl)
theorem Txt.g_NoDays (T : Txt w K mg) : mg "NoDays" = some (.ref (He.ga K "NoDays")) := by
  obtain ⟨h, X, G, c, _⟩ := T.ex
  exact He.glo_ok X G (c.fact 46 rfl)
theorem Txt.g_NoMoments (T : Txt w K mg) : mg "NoMoments" = some (.ref (He.ga K "NoMoments")) := by
  obtain ⟨h, X, G, c, _⟩ := T.ex
  exact He.glo_ok X G (c.fact 47 rfl)
theorem Txt.g_NoRule (T : Txt w K mg) : mg "NoRule" = some (.ref (He.ga K "NoRule")) := by
  obtain ⟨h, X, G, c, _⟩ := T.ex
  exact He.glo_ok X G (c.fact 48 rfl)
theorem Txt.g_NoMoment (T : Txt w K mg) : mg "NoMoment" = some (.ref (He.ga K "NoMoment")) := by
  obtain ⟨h, X, G, c, _⟩ := T.ex
  exact He.glo_ok X G (c.fact 49 rfl)
theorem Txt.g_NoDeed (T : Txt w K mg) : mg "NoDeed" = some (.ref (He.ga K "NoDeed")) := by
  obtain ⟨h, X, G, c, _⟩ := T.ex
  exact He.glo_ok X G (c.fact 50 rfl)
theorem Txt.g_NoParcel (T : Txt w K mg) : mg "NoParcel" = some (.ref (He.ga K "NoParcel")) := by
  obtain ⟨h, X, G, c, _⟩ := T.ex
  exact He.glo_ok X G (c.fact 51 rfl)
theorem Txt.g_NoText (T : Txt w K mg) : mg "NoText" = some (.ref (He.ga K "NoText")) := by
  obtain ⟨h, X, G, c, _⟩ := T.ex
  exact He.glo_ok X G (c.fact 52 rfl)
theorem Txt.g_ACTIONS (T : Txt w K mg) : mg "ACTIONS" = some (.ref (He.ga K "ACTIONS")) := by
  obtain ⟨h, X, G, c, _⟩ := T.ex
  exact He.glo_ok X G (c.fact 53 rfl)
theorem Txt.g_MOMENTS (T : Txt w K mg) : mg "MOMENTS" = some (.ref (He.ga K "MOMENTS")) := by
  obtain ⟨h, X, G, c, _⟩ := T.ex
  exact He.glo_ok X G (c.fact 54 rfl)
theorem Txt.g_MOST_ACTIONS (T : Txt w K mg) : ∃ t, mg "MOST_ACTIONS" = some (.int 6 t) := by
  obtain ⟨h, X, G, c, _⟩ := T.ex
  exact He.int_ok X G (c.fact 55 rfl)
theorem Txt.g_MOST_DAYS (T : Txt w K mg) : ∃ t, mg "MOST_DAYS" = some (.int 30 t) := by
  obtain ⟨h, X, G, c, _⟩ := T.ex
  exact He.int_ok X G (c.fact 56 rfl)
theorem Txt.g_MOST_PARCEL (T : Txt w K mg) : ∃ t, mg "MOST_PARCEL" = some (.int 1000000000 t) := by
  obtain ⟨h, X, G, c, _⟩ := T.ex
  exact He.int_ok X G (c.fact 57 rfl)
theorem Txt.g_SINGLE_WORDS (T : Txt w K mg) : mg "SINGLE_WORDS" = some (.ref (He.ga K "SINGLE_WORDS")) := by
  obtain ⟨h, X, G, c, _⟩ := T.ex
  exact He.glo_ok X G (c.fact 58 rfl)
theorem Txt.g_FIGURES (T : Txt w K mg) : ∃ t, mg "FIGURES" = some (.str "0123456789" t) := by
  obtain ⟨h, X, G, c, _⟩ := T.ex
  exact He.str_ok X G (c.fact 59 rfl)
theorem Txt.g_LAYS (T : Txt w K mg) : mg "LAYS" = some (.ref (He.ga K "LAYS")) := by
  obtain ⟨h, X, G, c, _⟩ := T.ex
  exact He.glo_ok X G (c.fact 60 rfl)
theorem Txt.g_TAKES (T : Txt w K mg) : mg "TAKES" = some (.ref (He.ga K "TAKES")) := by
  obtain ⟨h, X, G, c, _⟩ := T.ex
  exact He.glo_ok X G (c.fact 61 rfl)
theorem Txt.g_SHUTS (T : Txt w K mg) : mg "SHUTS" = some (.ref (He.ga K "SHUTS")) := by
  obtain ⟨h, X, G, c, _⟩ := T.ex
  exact He.glo_ok X G (c.fact 62 rfl)
theorem Txt.len (T : Txt w K mg) : mg "len" = none := by
  obtain ⟨h, X, G, c, _⟩ := T.ex
  exact He.free_ok X G (c.fact 63 rfl)
theorem Txt.abs (T : Txt w K mg) : mg "abs" = none := by
  obtain ⟨h, X, G, c, _⟩ := T.ex
  exact He.free_ok X G (c.fact 64 rfl)
theorem Txt.max (T : Txt w K mg) : mg "max" = none := by
  obtain ⟨h, X, G, c, _⟩ := T.ex
  exact He.free_ok X G (c.fact 65 rfl)
theorem Txt.min (T : Txt w K mg) : mg "min" = none := by
  obtain ⟨h, X, G, c, _⟩ := T.ex
  exact He.free_ok X G (c.fact 66 rfl)
theorem Txt.isinstance (T : Txt w K mg) : mg "isinstance" = none := by
  obtain ⟨h, X, G, c, _⟩ := T.ex
  exact He.free_ok X G (c.fact 67 rfl)
theorem Txt.all (T : Txt w K mg) : mg "all" = none := by
  obtain ⟨h, X, G, c, _⟩ := T.ex
  exact He.free_ok X G (c.fact 68 rfl)
theorem Txt.any (T : Txt w K mg) : mg "any" = none := by
  obtain ⟨h, X, G, c, _⟩ := T.ex
  exact He.free_ok X G (c.fact 69 rfl)
theorem Txt.sorted (T : Txt w K mg) : mg "sorted" = none := by
  obtain ⟨h, X, G, c, _⟩ := T.ex
  exact He.free_ok X G (c.fact 70 rfl)
theorem Txt.zip (T : Txt w K mg) : mg "zip" = none := by
  obtain ⟨h, X, G, c, _⟩ := T.ex
  exact He.free_ok X G (c.fact 71 rfl)
theorem Txt.enumerate (T : Txt w K mg) : mg "enumerate" = none := by
  obtain ⟨h, X, G, c, _⟩ := T.ex
  exact He.free_ok X G (c.fact 72 rfl)
theorem Txt.super (T : Txt w K mg) : mg "super" = none := by
  obtain ⟨h, X, G, c, _⟩ := T.ex
  exact He.free_ok X G (c.fact 73 rfl)
theorem Txt.ValueError (T : Txt w K mg) : mg "ValueError" = none := by
  obtain ⟨h, X, G, c, _⟩ := T.ex
  exact He.free_ok X G (c.fact 74 rfl)
theorem Txt.int (T : Txt w K mg) : mg "int" = none := by
  obtain ⟨h, X, G, c, _⟩ := T.ex
  exact He.free_ok X G (c.fact 75 rfl)
theorem Txt.str (T : Txt w K mg) : mg "str" = none := by
  obtain ⟨h, X, G, c, _⟩ := T.ex
  exact He.free_ok X G (c.fact 76 rfl)
theorem Txt.bool (T : Txt w K mg) : mg "bool" = none := by
  obtain ⟨h, X, G, c, _⟩ := T.ex
  exact He.free_ok X G (c.fact 77 rfl)
theorem Txt.list (T : Txt w K mg) : mg "list" = none := by
  obtain ⟨h, X, G, c, _⟩ := T.ex
  exact He.free_ok X G (c.fact 78 rfl)
theorem Txt.tuple (T : Txt w K mg) : mg "tuple" = none := by
  obtain ⟨h, X, G, c, _⟩ := T.ex
  exact He.free_ok X G (c.fact 79 rfl)
theorem Txt.set (T : Txt w K mg) : mg "set" = none := by
  obtain ⟨h, X, G, c, _⟩ := T.ex
  exact He.free_ok X G (c.fact 80 rfl)
theorem Txt.range (T : Txt w K mg) : mg "range" = none := by
  obtain ⟨h, X, G, c, _⟩ := T.ex
  exact He.free_ok X G (c.fact 81 rfl)
theorem Txt.cl_Book (T : Txt w K mg) : Cls K (He.ga K "Book") := by
  obtain ⟨h, X, G, c, _⟩ := T.ex
  exact He.cls_ok (c.fact 82 rfl)
theorem Txt.no_Book__days (T : Txt w K mg) : NoAttr K (He.ga K "Book") "_days" := by
  obtain ⟨h, X, G, c, _⟩ := T.ex
  exact He.noat_ok (c.fact 83 rfl)
theorem Txt.no_Book__rules (T : Txt w K mg) : NoAttr K (He.ga K "Book") "_rules" := by
  obtain ⟨h, X, G, c, _⟩ := T.ex
  exact He.noat_ok (c.fact 84 rfl)
theorem Txt.m_Book_eq (T : Txt w K mg) : Meth K (He.ga K "Book") "__eq__" (He.ma K (He.ga K "Book") "__eq__") := by
  obtain ⟨h, X, G, c, _⟩ := T.ex
  exact He.meth_ok (c.fact 85 rfl)
theorem Txt.m_Book_days (T : Txt w K mg) : Meth K (He.ga K "Book") "days" (He.ma K (He.ga K "Book") "days") := by
  obtain ⟨h, X, G, c, _⟩ := T.ex
  exact He.meth_ok (c.fact 86 rfl)
theorem Txt.m_Book_rule (T : Txt w K mg) : Meth K (He.ga K "Book") "rule" (He.ma K (He.ga K "Book") "rule") := by
  obtain ⟨h, X, G, c, _⟩ := T.ex
  exact He.meth_ok (c.fact 87 rfl)
theorem Txt.m_Book_rules (T : Txt w K mg) : Meth K (He.ga K "Book") "rules" (He.ma K (He.ga K "Book") "rules") := by
  obtain ⟨h, X, G, c, _⟩ := T.ex
  exact He.meth_ok (c.fact 88 rfl)
theorem Txt.m_Book_with_rule (T : Txt w K mg) : Meth K (He.ga K "Book") "with_rule" (He.ma K (He.ga K "Book") "with_rule") := by
  obtain ⟨h, X, G, c, _⟩ := T.ex
  exact He.meth_ok (c.fact 89 rfl)
theorem Txt.m_Book_with_days (T : Txt w K mg) : Meth K (He.ga K "Book") "with_days" (He.ma K (He.ga K "Book") "with_days") := by
  obtain ⟨h, X, G, c, _⟩ := T.ex
  exact He.meth_ok (c.fact 90 rfl)
theorem Txt.m_Book_taking (T : Txt w K mg) : Meth K (He.ga K "Book") "taking" (He.ma K (He.ga K "Book") "taking") := by
  obtain ⟨h, X, G, c, _⟩ := T.ex
  exact He.meth_ok (c.fact 91 rfl)
theorem Txt.mk_Book (T : Txt w K mg) : Mk K (He.ga K "Book") (He.ma K (He.ga K "Book") "__init__") := by
  obtain ⟨h, X, G, c, _⟩ := T.ex
  exact He.mkr_ok (c.fact 92 rfl)
theorem Txt.cl_Told (T : Txt w K mg) : Cls K (He.ga K "Told") := by
  obtain ⟨h, X, G, c, _⟩ := T.ex
  exact He.cls_ok (c.fact 93 rfl)
theorem Txt.no_Told_letters (T : Txt w K mg) : NoAttr K (He.ga K "Told") "letters" := by
  obtain ⟨h, X, G, c, _⟩ := T.ex
  exact He.noat_ok (c.fact 94 rfl)
theorem Txt.no_Told_opened (T : Txt w K mg) : NoAttr K (He.ga K "Told") "opened" := by
  obtain ⟨h, X, G, c, _⟩ := T.ex
  exact He.noat_ok (c.fact 95 rfl)
theorem Txt.no_Told_got (T : Txt w K mg) : NoAttr K (He.ga K "Told") "got" := by
  obtain ⟨h, X, G, c, _⟩ := T.ex
  exact He.noat_ok (c.fact 96 rfl)
theorem Txt.no_Told_lays (T : Txt w K mg) : NoAttr K (He.ga K "Told") "lays" := by
  obtain ⟨h, X, G, c, _⟩ := T.ex
  exact He.noat_ok (c.fact 97 rfl)
theorem Txt.no_Told_wrongs (T : Txt w K mg) : NoAttr K (He.ga K "Told") "wrongs" := by
  obtain ⟨h, X, G, c, _⟩ := T.ex
  exact He.noat_ok (c.fact 98 rfl)
theorem Txt.no_Told_moments (T : Txt w K mg) : NoAttr K (He.ga K "Told") "moments" := by
  obtain ⟨h, X, G, c, _⟩ := T.ex
  exact He.noat_ok (c.fact 99 rfl)
theorem Txt.m_Told_report (T : Txt w K mg) : Meth K (He.ga K "Told") "report" (He.ma K (He.ga K "Told") "report") := by
  obtain ⟨h, X, G, c, _⟩ := T.ex
  exact He.meth_ok (c.fact 100 rfl)
theorem Txt.mk_Told (T : Txt w K mg) : Mk K (He.ga K "Told") (He.ma K (He.ga K "Told") "__init__") := by
  obtain ⟨h, X, G, c, _⟩ := T.ex
  exact He.mkr_ok (c.fact 101 rfl)
theorem Txt.cl_Box (T : Txt w K mg) : Cls K (He.ga K "Box") := by
  obtain ⟨h, X, G, c, _⟩ := T.ex
  exact He.cls_ok (c.fact 102 rfl)
theorem Txt.no_Box_ajar (T : Txt w K mg) : NoAttr K (He.ga K "Box") "ajar" := by
  obtain ⟨h, X, G, c, _⟩ := T.ex
  exact He.noat_ok (c.fact 103 rfl)
theorem Txt.no_Box_inside (T : Txt w K mg) : NoAttr K (He.ga K "Box") "inside" := by
  obtain ⟨h, X, G, c, _⟩ := T.ex
  exact He.noat_ok (c.fact 104 rfl)
theorem Txt.no_Box_taken_for (T : Txt w K mg) : NoAttr K (He.ga K "Box") "taken_for" := by
  obtain ⟨h, X, G, c, _⟩ := T.ex
  exact He.noat_ok (c.fact 105 rfl)
theorem Txt.no_Box_valid (T : Txt w K mg) : NoAttr K (He.ga K "Box") "valid" := by
  obtain ⟨h, X, G, c, _⟩ := T.ex
  exact He.noat_ok (c.fact 106 rfl)
theorem Txt.no_Box_age (T : Txt w K mg) : NoAttr K (He.ga K "Box") "age" := by
  obtain ⟨h, X, G, c, _⟩ := T.ex
  exact He.noat_ok (c.fact 107 rfl)
theorem Txt.no_Box_last (T : Txt w K mg) : NoAttr K (He.ga K "Box") "last" := by
  obtain ⟨h, X, G, c, _⟩ := T.ex
  exact He.noat_ok (c.fact 108 rfl)
theorem Txt.no_Box_sent (T : Txt w K mg) : NoAttr K (He.ga K "Box") "sent" := by
  obtain ⟨h, X, G, c, _⟩ := T.ex
  exact He.noat_ok (c.fact 109 rfl)
theorem Txt.no_Box_served (T : Txt w K mg) : NoAttr K (He.ga K "Box") "served" := by
  obtain ⟨h, X, G, c, _⟩ := T.ex
  exact He.noat_ok (c.fact 110 rfl)
theorem Txt.m_Box_copied (T : Txt w K mg) : Meth K (He.ga K "Box") "copied" (He.ma K (He.ga K "Box") "copied") := by
  obtain ⟨h, X, G, c, _⟩ := T.ex
  exact He.meth_ok (c.fact 111 rfl)
theorem Txt.m_Box_stands (T : Txt w K mg) : Meth K (He.ga K "Box") "stands" (He.ma K (He.ga K "Box") "stands") := by
  obtain ⟨h, X, G, c, _⟩ := T.ex
  exact He.meth_ok (c.fact 112 rfl)
theorem Txt.m_Box_bring (T : Txt w K mg) : Meth K (He.ga K "Box") "bring" (He.ma K (He.ga K "Box") "bring") := by
  obtain ⟨h, X, G, c, _⟩ := T.ex
  exact He.meth_ok (c.fact 113 rfl)
theorem Txt.m_Box_code (T : Txt w K mg) : Meth K (He.ga K "Box") "code" (He.ma K (He.ga K "Box") "code") := by
  obtain ⟨h, X, G, c, _⟩ := T.ex
  exact He.meth_ok (c.fact 114 rfl)
theorem Txt.m_Box_pass_by (T : Txt w K mg) : Meth K (He.ga K "Box") "pass_by" (He.ma K (He.ga K "Box") "pass_by") := by
  obtain ⟨h, X, G, c, _⟩ := T.ex
  exact He.meth_ok (c.fact 115 rfl)
theorem Txt.m_Box_day (T : Txt w K mg) : Meth K (He.ga K "Box") "day" (He.ma K (He.ga K "Box") "day") := by
  obtain ⟨h, X, G, c, _⟩ := T.ex
  exact He.meth_ok (c.fact 116 rfl)
theorem Txt.m_Box_power (T : Txt w K mg) : Meth K (He.ga K "Box") "power" (He.ma K (He.ga K "Box") "power") := by
  obtain ⟨h, X, G, c, _⟩ := T.ex
  exact He.meth_ok (c.fact 117 rfl)
theorem Txt.m_Box_let_take (T : Txt w K mg) : Meth K (He.ga K "Box") "_let_take" (He.ma K (He.ga K "Box") "_let_take") := by
  obtain ⟨h, X, G, c, _⟩ := T.ex
  exact He.meth_ok (c.fact 118 rfl)
theorem Txt.m_Box_go_away (T : Txt w K mg) : Meth K (He.ga K "Box") "_go_away" (He.ma K (He.ga K "Box") "_go_away") := by
  obtain ⟨h, X, G, c, _⟩ := T.ex
  exact He.meth_ok (c.fact 119 rfl)
theorem Txt.m_Box_carry_out (T : Txt w K mg) : Meth K (He.ga K "Box") "_carry_out" (He.ma K (He.ga K "Box") "_carry_out") := by
  obtain ⟨h, X, G, c, _⟩ := T.ex
  exact He.meth_ok (c.fact 120 rfl)
theorem Txt.m_Box_act (T : Txt w K mg) : Meth K (He.ga K "Box") "_act" (He.ma K (He.ga K "Box") "_act") := by
  obtain ⟨h, X, G, c, _⟩ := T.ex
  exact He.meth_ok (c.fact 121 rfl)
theorem Txt.m_Box_send_code (T : Txt w K mg) : Meth K (He.ga K "Box") "_send_code" (He.ma K (He.ga K "Box") "_send_code") := by
  obtain ⟨h, X, G, c, _⟩ := T.ex
  exact He.meth_ok (c.fact 122 rfl)
theorem Txt.mk_Box (T : Txt w K mg) : Mk K (He.ga K "Box") (He.ma K (He.ga K "Box") "__init__") := by
  obtain ⟨h, X, G, c, _⟩ := T.ex
  exact He.mkr_ok (c.fact 123 rfl)
theorem Txt.tup_ACTIONS (T : Txt w K mg) : ∀ H, SqT K H (He.ga K "ACTIONS") [.str "free", .str "full", .str "off", .str "code", .str "void", .str "look", .str "lock"] := by
  obtain ⟨h, X, G, c, e⟩ := T.ex
  exact fun H => My.tupAt_ok (My.all_ix e 0 rfl) H
theorem Txt.ty_ACTIONS (T : Txt w K mg) : ∀ H, tyV K "tuple" (.ref (He.ga K "ACTIONS")) H := by
  obtain ⟨h, X, G, c, e⟩ := T.ex
  exact fun H => My.tupAt_ty (My.all_ix e 0 rfl) H
theorem Txt.tup_MOMENTS (T : Txt w K mg) : ∀ H, SqT K H (He.ga K "MOMENTS") [.str "given", .str "laid", .str "left", .str "opened", .str "taken", .str "gone", .str "late", .str "power"] := by
  obtain ⟨h, X, G, c, e⟩ := T.ex
  exact fun H => My.tupAt_ok (My.all_ix e 1 rfl) H
theorem Txt.ty_MOMENTS (T : Txt w K mg) : ∀ H, tyV K "tuple" (.ref (He.ga K "MOMENTS")) H := by
  obtain ⟨h, X, G, c, e⟩ := T.ex
  exact fun H => My.tupAt_ty (My.all_ix e 1 rfl) H
theorem Txt.tup_SINGLE_WORDS (T : Txt w K mg) : ∀ H, SqT K H (He.ga K "SINGLE_WORDS") [.str "pass", .str "day", .str "power"] := by
  obtain ⟨h, X, G, c, e⟩ := T.ex
  exact fun H => My.tupAt_ok (My.all_ix e 2 rfl) H
theorem Txt.ty_SINGLE_WORDS (T : Txt w K mg) : ∀ H, tyV K "tuple" (.ref (He.ga K "SINGLE_WORDS")) H := by
  obtain ⟨h, X, G, c, e⟩ := T.ex
  exact fun H => My.tupAt_ty (My.all_ix e 2 rfl) H
theorem Txt.dfl_Book_init_0 (T : Txt w K mg) : ∀ H, SqT K H (He.dflAt ("Book", some "__init__") 0 K) [] := by
  obtain ⟨h, X, G, c, e⟩ := T.ex
  exact fun H => My.tupAt_ok (My.all_ix e 3 rfl) H
theorem Txt.dfl_Book_init_1 (T : Txt w K mg) : ∀ H, SqT K H (He.dflAt ("Book", some "__init__") 1 K) [] := by
  obtain ⟨h, X, G, c, e⟩ := T.ex
  exact fun H => My.tupAt_ok (My.all_ix e 4 rfl) H
theorem Txt.dfl_Book_init_2 (T : Txt w K mg) : ∀ H, SqT K H (He.dflAt ("Book", some "__init__") 2 K) [] := by
  obtain ⟨h, X, G, c, e⟩ := T.ex
  exact fun H => My.tupAt_ok (My.all_ix e 5 rfl) H
theorem Txt.dfl_Book_init_3 (T : Txt w K mg) : ∀ H, SqT K H (He.dflAt ("Book", some "__init__") 3 K) [] := by
  obtain ⟨h, X, G, c, e⟩ := T.ex
  exact fun H => My.tupAt_ok (My.all_ix e 6 rfl) H
theorem Txt.dfl_Book_init_4 (T : Txt w K mg) : ∀ H, SqT K H (He.dflAt ("Book", some "__init__") 4 K) [] := by
  obtain ⟨h, X, G, c, e⟩ := T.ex
  exact fun H => My.tupAt_ok (My.all_ix e 7 rfl) H
theorem Txt.dfl_Book_init_5 (T : Txt w K mg) : ∀ H, SqT K H (He.dflAt ("Book", some "__init__") 5 K) [] := by
  obtain ⟨h, X, G, c, e⟩ := T.ex
  exact fun H => My.tupAt_ok (My.all_ix e 8 rfl) H
theorem Txt.dfl_Book_init_6 (T : Txt w K mg) : ∀ H, SqT K H (He.dflAt ("Book", some "__init__") 6 K) [] := by
  obtain ⟨h, X, G, c, e⟩ := T.ex
  exact fun H => My.tupAt_ok (My.all_ix e 9 rfl) H
theorem Txt.dfl_Book_init_7 (T : Txt w K mg) : ∀ H, SqT K H (He.dflAt ("Book", some "__init__") 7 K) [] := by
  obtain ⟨h, X, G, c, e⟩ := T.ex
  exact fun H => My.tupAt_ok (My.all_ix e 10 rfl) H
theorem Txt.insB_Book (T : Txt w K mg) : My.insB K (He.ga K "Book") = true := by
  obtain ⟨h, X, G, c, e⟩ := T.ex
  exact My.all_ix e 11 rfl
theorem Txt.kv_LAYS_lay (T : Txt w K mg) : PySem.W.nsIn K (He.ga K "LAYS") "lay" = some (some (.bool true)) := by
  obtain ⟨h, X, G, c, e⟩ := T.ex
  exact He.eqO_ok (My.all_ix e 12 rfl)
theorem Txt.kv_LAYS_bare (T : Txt w K mg) : PySem.W.nsIn K (He.ga K "LAYS") "bare" = some (some (.bool false)) := by
  obtain ⟨h, X, G, c, e⟩ := T.ex
  exact He.eqO_ok (My.all_ix e 13 rfl)
theorem Txt.kv_TAKES_take (T : Txt w K mg) : PySem.W.nsIn K (He.ga K "TAKES") "take" = some (some (.bool true)) := by
  obtain ⟨h, X, G, c, e⟩ := T.ex
  exact He.eqO_ok (My.all_ix e 14 rfl)
theorem Txt.kv_TAKES_leave (T : Txt w K mg) : PySem.W.nsIn K (He.ga K "TAKES") "leave" = some (some (.bool false)) := by
  obtain ⟨h, X, G, c, e⟩ := T.ex
  exact He.eqO_ok (My.all_ix e 15 rfl)
theorem Txt.kv_SHUTS_shut (T : Txt w K mg) : PySem.W.nsIn K (He.ga K "SHUTS") "shut" = some (some (.bool true)) := by
  obtain ⟨h, X, G, c, e⟩ := T.ex
  exact He.eqO_ok (My.all_ix e 16 rfl)
theorem Txt.kv_SHUTS_ajar (T : Txt w K mg) : PySem.W.nsIn K (He.ga K "SHUTS") "ajar" = some (some (.bool false)) := by
  obtain ⟨h, X, G, c, e⟩ := T.ex
  exact He.eqO_ok (My.all_ix e 17 rfl)
theorem Txt.kd_LAYS (T : Txt w K mg) : ∃ es n, KDict K w (He.ga K "LAYS") es n := My.tab_ix T.tabs 0 rfl
theorem Txt.kd_TAKES (T : Txt w K mg) : ∃ es n, KDict K w (He.ga K "TAKES") es n := My.tab_ix T.tabs 1 rfl
theorem Txt.kd_SHUTS (T : Txt w K mg) : ∃ es n, KDict K w (He.ga K "SHUTS") es n := My.tab_ix T.tabs 2 rfl
theorem Txt.f_wall (T : Txt w K mg) : ∃ fd, FunD K d_wall.name d_wall.qual d_wall.params d_wall.body d_wall.scope (d_wall.dvs K) (d_wall.kws K) (He.fAd K d_wall.at_) fd := by
  obtain ⟨h, X, G, c, e⟩ := T.ex
  exact c.def_ 0 rfl
theorem Txt.f_is_integer_within (T : Txt w K mg) : ∃ fd, FunD K d_is_integer_within.name d_is_integer_within.qual d_is_integer_within.params d_is_integer_within.body d_is_integer_within.scope (d_is_integer_within.dvs K) (d_is_integer_within.kws K) (He.fAd K d_is_integer_within.at_) fd := by
  obtain ⟨h, X, G, c, e⟩ := T.ex
  exact c.def_ 1 rfl
theorem Txt.f_is_truth (T : Txt w K mg) : ∃ fd, FunD K d_is_truth.name d_is_truth.qual d_is_truth.params d_is_truth.body d_is_truth.scope (d_is_truth.dvs K) (d_is_truth.kws K) (He.fAd K d_is_truth.at_) fd := by
  obtain ⟨h, X, G, c, e⟩ := T.ex
  exact c.def_ 2 rfl
theorem Txt.f_is_word (T : Txt w K mg) : ∃ fd, FunD K d_is_word.name d_is_word.qual d_is_word.params d_is_word.body d_is_word.scope (d_is_word.dvs K) (d_is_word.kws K) (He.fAd K d_is_word.at_) fd := by
  obtain ⟨h, X, G, c, e⟩ := T.ex
  exact c.def_ 3 rfl
theorem Txt.f_are_distinct_words (T : Txt w K mg) : ∃ fd, FunD K d_are_distinct_words.name d_are_distinct_words.qual d_are_distinct_words.params d_are_distinct_words.body d_are_distinct_words.scope (d_are_distinct_words.dvs K) (d_are_distinct_words.kws K) (He.fAd K d_are_distinct_words.at_) fd := by
  obtain ⟨h, X, G, c, e⟩ := T.ex
  exact c.def_ 4 rfl
theorem Txt.f_is_rule (T : Txt w K mg) : ∃ fd, FunD K d_is_rule.name d_is_rule.qual d_is_rule.params d_is_rule.body d_is_rule.scope (d_is_rule.dvs K) (d_is_rule.kws K) (He.fAd K d_is_rule.at_) fd := by
  obtain ⟨h, X, G, c, e⟩ := T.ex
  exact c.def_ 5 rfl
theorem Txt.f_Book_init (T : Txt w K mg) : ∃ fd, FunD K d_Book_init.name d_Book_init.qual d_Book_init.params d_Book_init.body d_Book_init.scope (d_Book_init.dvs K) (d_Book_init.kws K) (He.fAd K d_Book_init.at_) fd := by
  obtain ⟨h, X, G, c, e⟩ := T.ex
  exact c.def_ 6 rfl
theorem Txt.f_Book_eq (T : Txt w K mg) : ∃ fd, FunD K d_Book_eq.name d_Book_eq.qual d_Book_eq.params d_Book_eq.body d_Book_eq.scope (d_Book_eq.dvs K) (d_Book_eq.kws K) (He.fAd K d_Book_eq.at_) fd := by
  obtain ⟨h, X, G, c, e⟩ := T.ex
  exact c.def_ 7 rfl
theorem Txt.f_Book_days (T : Txt w K mg) : ∃ fd, FunD K d_Book_days.name d_Book_days.qual d_Book_days.params d_Book_days.body d_Book_days.scope (d_Book_days.dvs K) (d_Book_days.kws K) (He.fAd K d_Book_days.at_) fd := by
  obtain ⟨h, X, G, c, e⟩ := T.ex
  exact c.def_ 8 rfl
theorem Txt.f_Book_rule (T : Txt w K mg) : ∃ fd, FunD K d_Book_rule.name d_Book_rule.qual d_Book_rule.params d_Book_rule.body d_Book_rule.scope (d_Book_rule.dvs K) (d_Book_rule.kws K) (He.fAd K d_Book_rule.at_) fd := by
  obtain ⟨h, X, G, c, e⟩ := T.ex
  exact c.def_ 9 rfl
theorem Txt.f_Book_rules (T : Txt w K mg) : ∃ fd, FunD K d_Book_rules.name d_Book_rules.qual d_Book_rules.params d_Book_rules.body d_Book_rules.scope (d_Book_rules.dvs K) (d_Book_rules.kws K) (He.fAd K d_Book_rules.at_) fd := by
  obtain ⟨h, X, G, c, e⟩ := T.ex
  exact c.def_ 10 rfl
theorem Txt.f_Book_with_rule (T : Txt w K mg) : ∃ fd, FunD K d_Book_with_rule.name d_Book_with_rule.qual d_Book_with_rule.params d_Book_with_rule.body d_Book_with_rule.scope (d_Book_with_rule.dvs K) (d_Book_with_rule.kws K) (He.fAd K d_Book_with_rule.at_) fd := by
  obtain ⟨h, X, G, c, e⟩ := T.ex
  exact c.def_ 11 rfl
theorem Txt.f_Book_with_days (T : Txt w K mg) : ∃ fd, FunD K d_Book_with_days.name d_Book_with_days.qual d_Book_with_days.params d_Book_with_days.body d_Book_with_days.scope (d_Book_with_days.dvs K) (d_Book_with_days.kws K) (He.fAd K d_Book_with_days.at_) fd := by
  obtain ⟨h, X, G, c, e⟩ := T.ex
  exact c.def_ 12 rfl
theorem Txt.f_Book_taking (T : Txt w K mg) : ∃ fd, FunD K d_Book_taking.name d_Book_taking.qual d_Book_taking.params d_Book_taking.body d_Book_taking.scope (d_Book_taking.dvs K) (d_Book_taking.kws K) (He.fAd K d_Book_taking.at_) fd := by
  obtain ⟨h, X, G, c, e⟩ := T.ex
  exact c.def_ 13 rfl
theorem Txt.f_are_truths (T : Txt w K mg) : ∃ fd, FunD K d_are_truths.name d_are_truths.qual d_are_truths.params d_are_truths.body d_are_truths.scope (d_are_truths.dvs K) (d_are_truths.kws K) (He.fAd K d_are_truths.at_) fd := by
  obtain ⟨h, X, G, c, e⟩ := T.ex
  exact c.def_ 14 rfl
theorem Txt.f_is_deed (T : Txt w K mg) : ∃ fd, FunD K d_is_deed.name d_is_deed.qual d_is_deed.params d_is_deed.body d_is_deed.scope (d_is_deed.dvs K) (d_is_deed.kws K) (He.fAd K d_is_deed.at_) fd := by
  obtain ⟨h, X, G, c, e⟩ := T.ex
  exact c.def_ 15 rfl
theorem Txt.f_check_are_deeds (T : Txt w K mg) : ∃ fd, FunD K d_check_are_deeds.name d_check_are_deeds.qual d_check_are_deeds.params d_check_are_deeds.body d_check_are_deeds.scope (d_check_are_deeds.dvs K) (d_check_are_deeds.kws K) (He.fAd K d_check_are_deeds.at_) fd := by
  obtain ⟨h, X, G, c, e⟩ := T.ex
  exact c.def_ 16 rfl
theorem Txt.f_check_playable (T : Txt w K mg) : ∃ fd, FunD K d_check_playable.name d_check_playable.qual d_check_playable.params d_check_playable.body d_check_playable.scope (d_check_playable.dvs K) (d_check_playable.kws K) (He.fAd K d_check_playable.at_) fd := by
  obtain ⟨h, X, G, c, e⟩ := T.ex
  exact c.def_ 17 rfl
theorem Txt.f_book_text (T : Txt w K mg) : ∃ fd, FunD K d_book_text.name d_book_text.qual d_book_text.params d_book_text.body d_book_text.scope (d_book_text.dvs K) (d_book_text.kws K) (He.fAd K d_book_text.at_) fd := by
  obtain ⟨h, X, G, c, e⟩ := T.ex
  exact c.def_ 18 rfl
theorem Txt.f_read_book (T : Txt w K mg) : ∃ fd, FunD K d_read_book.name d_read_book.qual d_read_book.params d_read_book.body d_read_book.scope (d_read_book.dvs K) (d_read_book.kws K) (He.fAd K d_read_book.at_) fd := by
  obtain ⟨h, X, G, c, e⟩ := T.ex
  exact c.def_ 19 rfl
theorem Txt.f_deeds_text (T : Txt w K mg) : ∃ fd, FunD K d_deeds_text.name d_deeds_text.qual d_deeds_text.params d_deeds_text.body d_deeds_text.scope (d_deeds_text.dvs K) (d_deeds_text.kws K) (He.fAd K d_deeds_text.at_) fd := by
  obtain ⟨h, X, G, c, e⟩ := T.ex
  exact c.def_ 20 rfl
theorem Txt.f_read_deeds (T : Txt w K mg) : ∃ fd, FunD K d_read_deeds.name d_read_deeds.qual d_read_deeds.params d_read_deeds.body d_read_deeds.scope (d_read_deeds.dvs K) (d_read_deeds.kws K) (He.fAd K d_read_deeds.at_) fd := by
  obtain ⟨h, X, G, c, e⟩ := T.ex
  exact c.def_ 21 rfl
theorem Txt.f_lines_of (T : Txt w K mg) : ∃ fd, FunD K d_lines_of.name d_lines_of.qual d_lines_of.params d_lines_of.body d_lines_of.scope (d_lines_of.dvs K) (d_lines_of.kws K) (He.fAd K d_lines_of.at_) fd := by
  obtain ⟨h, X, G, c, e⟩ := T.ex
  exact c.def_ 22 rfl
theorem Txt.f_read_number (T : Txt w K mg) : ∃ fd, FunD K d_read_number.name d_read_number.qual d_read_number.params d_read_number.body d_read_number.scope (d_read_number.dvs K) (d_read_number.kws K) (He.fAd K d_read_number.at_) fd := by
  obtain ⟨h, X, G, c, e⟩ := T.ex
  exact c.def_ 23 rfl
theorem Txt.f_read_days (T : Txt w K mg) : ∃ fd, FunD K d_read_days.name d_read_days.qual d_read_days.params d_read_days.body d_read_days.scope (d_read_days.dvs K) (d_read_days.kws K) (He.fAd K d_read_days.at_) fd := by
  obtain ⟨h, X, G, c, e⟩ := T.ex
  exact c.def_ 24 rfl
theorem Txt.f_read_rule (T : Txt w K mg) : ∃ fd, FunD K d_read_rule.name d_read_rule.qual d_read_rule.params d_read_rule.body d_read_rule.scope (d_read_rule.dvs K) (d_read_rule.kws K) (He.fAd K d_read_rule.at_) fd := by
  obtain ⟨h, X, G, c, e⟩ := T.ex
  exact c.def_ 25 rfl
theorem Txt.f_read_deed (T : Txt w K mg) : ∃ fd, FunD K d_read_deed.name d_read_deed.qual d_read_deed.params d_read_deed.body d_read_deed.scope (d_read_deed.dvs K) (d_read_deed.kws K) (He.fAd K d_read_deed.at_) fd := by
  obtain ⟨h, X, G, c, e⟩ := T.ex
  exact c.def_ 26 rfl
theorem Txt.f_deed_line (T : Txt w K mg) : ∃ fd, FunD K d_deed_line.name d_deed_line.qual d_deed_line.params d_deed_line.body d_deed_line.scope (d_deed_line.dvs K) (d_deed_line.kws K) (He.fAd K d_deed_line.at_) fd := by
  obtain ⟨h, X, G, c, e⟩ := T.ex
  exact c.def_ 27 rfl
theorem Txt.f_Told_init (T : Txt w K mg) : ∃ fd, FunD K d_Told_init.name d_Told_init.qual d_Told_init.params d_Told_init.body d_Told_init.scope (d_Told_init.dvs K) (d_Told_init.kws K) (He.fAd K d_Told_init.at_) fd := by
  obtain ⟨h, X, G, c, e⟩ := T.ex
  exact c.def_ 28 rfl
theorem Txt.f_Told_report (T : Txt w K mg) : ∃ fd, FunD K d_Told_report.name d_Told_report.qual d_Told_report.params d_Told_report.body d_Told_report.scope (d_Told_report.dvs K) (d_Told_report.kws K) (He.fAd K d_Told_report.at_) fd := by
  obtain ⟨h, X, G, c, e⟩ := T.ex
  exact c.def_ 29 rfl
theorem Txt.f_Box_init (T : Txt w K mg) : ∃ fd, FunD K d_Box_init.name d_Box_init.qual d_Box_init.params d_Box_init.body d_Box_init.scope (d_Box_init.dvs K) (d_Box_init.kws K) (He.fAd K d_Box_init.at_) fd := by
  obtain ⟨h, X, G, c, e⟩ := T.ex
  exact c.def_ 30 rfl
theorem Txt.f_Box_copied (T : Txt w K mg) : ∃ fd, FunD K d_Box_copied.name d_Box_copied.qual d_Box_copied.params d_Box_copied.body d_Box_copied.scope (d_Box_copied.dvs K) (d_Box_copied.kws K) (He.fAd K d_Box_copied.at_) fd := by
  obtain ⟨h, X, G, c, e⟩ := T.ex
  exact c.def_ 31 rfl
theorem Txt.f_Box_stands (T : Txt w K mg) : ∃ fd, FunD K d_Box_stands.name d_Box_stands.qual d_Box_stands.params d_Box_stands.body d_Box_stands.scope (d_Box_stands.dvs K) (d_Box_stands.kws K) (He.fAd K d_Box_stands.at_) fd := by
  obtain ⟨h, X, G, c, e⟩ := T.ex
  exact c.def_ 32 rfl
theorem Txt.f_Box_bring (T : Txt w K mg) : ∃ fd, FunD K d_Box_bring.name d_Box_bring.qual d_Box_bring.params d_Box_bring.body d_Box_bring.scope (d_Box_bring.dvs K) (d_Box_bring.kws K) (He.fAd K d_Box_bring.at_) fd := by
  obtain ⟨h, X, G, c, e⟩ := T.ex
  exact c.def_ 33 rfl
theorem Txt.f_Box_code (T : Txt w K mg) : ∃ fd, FunD K d_Box_code.name d_Box_code.qual d_Box_code.params d_Box_code.body d_Box_code.scope (d_Box_code.dvs K) (d_Box_code.kws K) (He.fAd K d_Box_code.at_) fd := by
  obtain ⟨h, X, G, c, e⟩ := T.ex
  exact c.def_ 34 rfl
theorem Txt.f_Box_pass_by (T : Txt w K mg) : ∃ fd, FunD K d_Box_pass_by.name d_Box_pass_by.qual d_Box_pass_by.params d_Box_pass_by.body d_Box_pass_by.scope (d_Box_pass_by.dvs K) (d_Box_pass_by.kws K) (He.fAd K d_Box_pass_by.at_) fd := by
  obtain ⟨h, X, G, c, e⟩ := T.ex
  exact c.def_ 35 rfl
theorem Txt.f_Box_day (T : Txt w K mg) : ∃ fd, FunD K d_Box_day.name d_Box_day.qual d_Box_day.params d_Box_day.body d_Box_day.scope (d_Box_day.dvs K) (d_Box_day.kws K) (He.fAd K d_Box_day.at_) fd := by
  obtain ⟨h, X, G, c, e⟩ := T.ex
  exact c.def_ 36 rfl
theorem Txt.f_Box_power (T : Txt w K mg) : ∃ fd, FunD K d_Box_power.name d_Box_power.qual d_Box_power.params d_Box_power.body d_Box_power.scope (d_Box_power.dvs K) (d_Box_power.kws K) (He.fAd K d_Box_power.at_) fd := by
  obtain ⟨h, X, G, c, e⟩ := T.ex
  exact c.def_ 37 rfl
theorem Txt.f_Box_let_take (T : Txt w K mg) : ∃ fd, FunD K d_Box_let_take.name d_Box_let_take.qual d_Box_let_take.params d_Box_let_take.body d_Box_let_take.scope (d_Box_let_take.dvs K) (d_Box_let_take.kws K) (He.fAd K d_Box_let_take.at_) fd := by
  obtain ⟨h, X, G, c, e⟩ := T.ex
  exact c.def_ 38 rfl
theorem Txt.f_Box_go_away (T : Txt w K mg) : ∃ fd, FunD K d_Box_go_away.name d_Box_go_away.qual d_Box_go_away.params d_Box_go_away.body d_Box_go_away.scope (d_Box_go_away.dvs K) (d_Box_go_away.kws K) (He.fAd K d_Box_go_away.at_) fd := by
  obtain ⟨h, X, G, c, e⟩ := T.ex
  exact c.def_ 39 rfl
theorem Txt.f_Box_carry_out (T : Txt w K mg) : ∃ fd, FunD K d_Box_carry_out.name d_Box_carry_out.qual d_Box_carry_out.params d_Box_carry_out.body d_Box_carry_out.scope (d_Box_carry_out.dvs K) (d_Box_carry_out.kws K) (He.fAd K d_Box_carry_out.at_) fd := by
  obtain ⟨h, X, G, c, e⟩ := T.ex
  exact c.def_ 40 rfl
theorem Txt.f_Box_act (T : Txt w K mg) : ∃ fd, FunD K d_Box_act.name d_Box_act.qual d_Box_act.params d_Box_act.body d_Box_act.scope (d_Box_act.dvs K) (d_Box_act.kws K) (He.fAd K d_Box_act.at_) fd := by
  obtain ⟨h, X, G, c, e⟩ := T.ex
  exact c.def_ 41 rfl
theorem Txt.f_Box_send_code (T : Txt w K mg) : ∃ fd, FunD K d_Box_send_code.name d_Box_send_code.qual d_Box_send_code.params d_Box_send_code.body d_Box_send_code.scope (d_Box_send_code.dvs K) (d_Box_send_code.kws K) (He.fAd K d_Box_send_code.at_) fd := by
  obtain ⟨h, X, G, c, e⟩ := T.ex
  exact c.def_ 42 rfl
theorem Txt.f_do_deed (T : Txt w K mg) : ∃ fd, FunD K d_do_deed.name d_do_deed.qual d_do_deed.params d_do_deed.body d_do_deed.scope (d_do_deed.dvs K) (d_do_deed.kws K) (He.fAd K d_do_deed.at_) fd := by
  obtain ⟨h, X, G, c, e⟩ := T.ex
  exact c.def_ 43 rfl
theorem Txt.f_played (T : Txt w K mg) : ∃ fd, FunD K d_played.name d_played.qual d_played.params d_played.body d_played.scope (d_played.dvs K) (d_played.kws K) (He.fAd K d_played.at_) fd := by
  obtain ⟨h, X, G, c, e⟩ := T.ex
  exact c.def_ 44 rfl
theorem Txt.f_play (T : Txt w K mg) : ∃ fd, FunD K d_play.name d_play.qual d_play.params d_play.body d_play.scope (d_play.dvs K) (d_play.kws K) (He.fAd K d_play.at_) fd := by
  obtain ⟨h, X, G, c, e⟩ := T.ex
  exact c.def_ 45 rfl
theorem Txt.f_boxes (T : Txt w K mg) : ∃ fd, FunD K d_boxes.name d_boxes.qual d_boxes.params d_boxes.body d_boxes.scope (d_boxes.dvs K) (d_boxes.kws K) (He.fAd K d_boxes.at_) fd := by
  obtain ⟨h, X, G, c, e⟩ := T.ex
  exact c.def_ 46 rfl
theorem Txt.f_law_pot (T : Txt w K mg) : ∃ fd, FunD K d_law_pot.name d_law_pot.qual d_law_pot.params d_law_pot.body d_law_pot.scope (d_law_pot.dvs K) (d_law_pot.kws K) (He.fAd K d_law_pot.at_) fd := by
  obtain ⟨h, X, G, c, e⟩ := T.ex
  exact c.def_ 47 rfl
theorem Txt.f_law_dip (T : Txt w K mg) : ∃ fd, FunD K d_law_dip.name d_law_dip.qual d_law_dip.params d_law_dip.body d_law_dip.scope (d_law_dip.dvs K) (d_law_dip.kws K) (He.fAd K d_law_dip.at_) fd := by
  obtain ⟨h, X, G, c, e⟩ := T.ex
  exact c.def_ 48 rfl
theorem Txt.f_law_rule (T : Txt w K mg) : ∃ fd, FunD K d_law_rule.name d_law_rule.qual d_law_rule.params d_law_rule.body d_law_rule.scope (d_law_rule.dvs K) (d_law_rule.kws K) (He.fAd K d_law_rule.at_) fd := by
  obtain ⟨h, X, G, c, e⟩ := T.ex
  exact c.def_ 49 rfl
theorem Txt.f_law_plan (T : Txt w K mg) : ∃ fd, FunD K d_law_plan.name d_law_plan.qual d_law_plan.params d_law_plan.body d_law_plan.scope (d_law_plan.dvs K) (d_law_plan.kws K) (He.fAd K d_law_plan.at_) fd := by
  obtain ⟨h, X, G, c, e⟩ := T.ex
  exact c.def_ 50 rfl
theorem Txt.f_law_moments (T : Txt w K mg) : ∃ fd, FunD K d_law_moments.name d_law_moments.qual d_law_moments.params d_law_moments.body d_law_moments.scope (d_law_moments.dvs K) (d_law_moments.kws K) (He.fAd K d_law_moments.at_) fd := by
  obtain ⟨h, X, G, c, e⟩ := T.ex
  exact c.def_ 51 rfl
theorem Txt.f_law_book (T : Txt w K mg) : ∃ fd, FunD K d_law_book.name d_law_book.qual d_law_book.params d_law_book.body d_law_book.scope (d_law_book.dvs K) (d_law_book.kws K) (He.fAd K d_law_book.at_) fd := by
  obtain ⟨h, X, G, c, e⟩ := T.ex
  exact c.def_ 52 rfl
theorem Txt.f_law_made (T : Txt w K mg) : ∃ fd, FunD K d_law_made.name d_law_made.qual d_law_made.params d_law_made.body d_law_made.scope (d_law_made.dvs K) (d_law_made.kws K) (He.fAd K d_law_made.at_) fd := by
  obtain ⟨h, X, G, c, e⟩ := T.ex
  exact c.def_ 53 rfl
theorem Txt.f_law_alike (T : Txt w K mg) : ∃ fd, FunD K d_law_alike.name d_law_alike.qual d_law_alike.params d_law_alike.body d_law_alike.scope (d_law_alike.dvs K) (d_law_alike.kws K) (He.fAd K d_law_alike.at_) fd := by
  obtain ⟨h, X, G, c, e⟩ := T.ex
  exact c.def_ 54 rfl
theorem Txt.f_law_line (T : Txt w K mg) : ∃ fd, FunD K d_law_line.name d_law_line.qual d_law_line.params d_law_line.body d_law_line.scope (d_law_line.dvs K) (d_law_line.kws K) (He.fAd K d_law_line.at_) fd := by
  obtain ⟨h, X, G, c, e⟩ := T.ex
  exact c.def_ 55 rfl
theorem Txt.f_law_lines (T : Txt w K mg) : ∃ fd, FunD K d_law_lines.name d_law_lines.qual d_law_lines.params d_law_lines.body d_law_lines.scope (d_law_lines.dvs K) (d_law_lines.kws K) (He.fAd K d_law_lines.at_) fd := by
  obtain ⟨h, X, G, c, e⟩ := T.ex
  exact c.def_ 56 rfl
theorem Txt.f_law_deed (T : Txt w K mg) : ∃ fd, FunD K d_law_deed.name d_law_deed.qual d_law_deed.params d_law_deed.body d_law_deed.scope (d_law_deed.dvs K) (d_law_deed.kws K) (He.fAd K d_law_deed.at_) fd := by
  obtain ⟨h, X, G, c, e⟩ := T.ex
  exact c.def_ 57 rfl
theorem Txt.f_law_deed_line (T : Txt w K mg) : ∃ fd, FunD K d_law_deed_line.name d_law_deed_line.qual d_law_deed_line.params d_law_deed_line.body d_law_deed_line.scope (d_law_deed_line.dvs K) (d_law_deed_line.kws K) (He.fAd K d_law_deed_line.at_) fd := by
  obtain ⟨h, X, G, c, e⟩ := T.ex
  exact c.def_ 58 rfl
theorem Txt.f_law_carry (T : Txt w K mg) : ∃ fd, FunD K d_law_carry.name d_law_carry.qual d_law_carry.params d_law_carry.body d_law_carry.scope (d_law_carry.dvs K) (d_law_carry.kws K) (He.fAd K d_law_carry.at_) fd := by
  obtain ⟨h, X, G, c, e⟩ := T.ex
  exact c.def_ 59 rfl
theorem Txt.f_law_shut (T : Txt w K mg) : ∃ fd, FunD K d_law_shut.name d_law_shut.qual d_law_shut.params d_law_shut.body d_law_shut.scope (d_law_shut.dvs K) (d_law_shut.kws K) (He.fAd K d_law_shut.at_) fd := by
  obtain ⟨h, X, G, c, e⟩ := T.ex
  exact c.def_ 60 rfl
theorem Txt.f_law_report (T : Txt w K mg) : ∃ fd, FunD K d_law_report.name d_law_report.qual d_law_report.params d_law_report.body d_law_report.scope (d_law_report.dvs K) (d_law_report.kws K) (He.fAd K d_law_report.at_) fd := by
  obtain ⟨h, X, G, c, e⟩ := T.ex
  exact c.def_ 61 rfl
theorem Txt.f_law_acts (T : Txt w K mg) : ∃ fd, FunD K d_law_acts.name d_law_acts.qual d_law_acts.params d_law_acts.body d_law_acts.scope (d_law_acts.dvs K) (d_law_acts.kws K) (He.fAd K d_law_acts.at_) fd := by
  obtain ⟨h, X, G, c, e⟩ := T.ex
  exact c.def_ 62 rfl
theorem Txt.f_law_right (T : Txt w K mg) : ∃ fd, FunD K d_law_right.name d_law_right.qual d_law_right.params d_law_right.body d_law_right.scope (d_law_right.dvs K) (d_law_right.kws K) (He.fAd K d_law_right.at_) fd := by
  obtain ⟨h, X, G, c, e⟩ := T.ex
  exact c.def_ 63 rfl
theorem Txt.f_law (T : Txt w K mg) : ∃ fd, FunD K d_law.name d_law.qual d_law.params d_law.body d_law.scope (d_law.dvs K) (d_law.kws K) (He.fAd K d_law.at_) fd := by
  obtain ⟨h, X, G, c, e⟩ := T.ex
  exact c.def_ 64 rfl
end
end K15


namespace K15
open PySem PySem.Spec PyProof.Rows L2
abbrev R : PySem.W.OpenRow := PySem.W.OpenLaw.row PySem.Challenge.rw_lockerwall_k15_whole_read_books_played
abbrev hk : PySem.W.Hook := My.hookD3 5 fa fn ex ts
def ob (s : PySem.W.SharedT) : My.AlK := My.obsDG3 5 fa fn ex ts (HandSHeadRun.getT s)
theorem ob_eq (s : PySem.W.SharedT) : ob s = hk.obs s.abs := My.obsDG3_eq (HandSHeadRun.getT_eq s)
def loose : List PySem.Str := ((["_wall", "is_integer_within", "is_truth", "is_word", "are_distinct_words", "WallError", "NoDays", "NoMoments", "NoRule", "NoMoment", "NoDeed", "NoParcel", "NoText", "is_rule", "Book", "are_truths", "is_deed", "check_are_deeds", "check_playable", "book_text", "read_book", "deeds_text", "read_deeds", "lines_of", "read_number", "read_days", "read_rule", "read_deed", "deed_line", "Told"] : List PySem.Str) ++ (["Box", "do_deed", "played", "play", "boxes", "_law_pot", "_law_dip", "_law_rule", "_law_plan", "_law_moments", "_law_book", "_law_made", "_law_alike", "_law_line", "_law_lines", "_law_deed", "_law_deed_line", "_law_carry", "_law_shut", "_law_report", "_law_acts", "_law_right", "ACTIONS", "MOMENTS", "MOST_ACTIONS", "MOST_DAYS", "MOST_PARCEL", "SINGLE_WORDS", "FIGURES", "LAYS", "TAKES", "SHUTS"] : List PySem.Str))
def told (w : World) (b : Bool) : World := { w with params := { w.params with followText := fun row => if row = "special-get-raises" then b else w.params.followText row } }
theorem told_eq (w : World) : told w (w.params.followText "special-get-raises") = w := by
  obtain ⟨dr, pp⟩ := w
  have e : (fun row => if row = "special-get-raises" then pp.followText "special-get-raises" else pp.followText row) = pp.followText := by
    funext row
    by_cases c : row = "special-get-raises"
    · rw [if_pos c, c]
    · rw [if_neg c]
  show (World.mk dr { pp with followText := fun row => if row = "special-get-raises" then pp.followText "special-get-raises" else pp.followText row }) = _
  rw [e]
theorem run0 (w : World) : HandSHeadRun.RunEq R (PySem.W.view R.prog [70]) hk ob 6000 loose (told w false) := by
  intro os
  kernel_rfl
theorem run1 (w : World) : HandSHeadRun.RunEq R (PySem.W.view R.prog [70]) hk ob 6000 loose (told w true) := by
  intro os
  kernel_rfl
theorem run (w : World) : HandSHeadRun.RunEq R (PySem.W.view R.prog [70]) hk ob 6000 loose w := by
  rw [← told_eq w]
  cases w.params.followText "special-get-raises" with
  | false => exact run0 w
  | true => exact run1 w
end K15

set_option maxHeartbeats 200000
namespace K15
open PySem PySem.Spec PyProof.Rows L2
section
variable {P : Program} {w : World} {K : PySem.W.Frag} {mg : Str → Option Value} {base : Heap}
/-! ### checks -/
def sp_is_integer_within (K : PySem.W.Frag) : Sp := fun vs H Q _ => ∃ n lo hi : Int, vs = [.int n, .int lo, .int hi] ∧ Q (.bl (decide (lo ≤ n) && decide (n ≤ hi))) H
set_option maxHeartbeats 2000000 in
theorem ok_is_integer_within (T : Txt w K mg) {fd : FuncData} (F : FunD K d_is_integer_within.name d_is_integer_within.qual d_is_integer_within.params d_is_integer_within.body d_is_integer_within.scope (d_is_integer_within.dvs K) (d_is_integer_within.kws K) (He.fAd K d_is_integer_within.at_) fd) : FnOk P w K mg base C8.CX0 1 (He.fAd K d_is_integer_within.at_) fd ["value", "low", "high"] (sp_is_integer_within K) := by
  refine F.ok sc_is_integer_within (fun vs H Q E h => ?_) (fun cdv A outer s H vs Q E hr h => ?_)
  · obtain ⟨n, lo, hi, rfl, _⟩ := h
    rfl
  · have hu := L2.hu_of hr
    obtain ⟨n, lo, hi, rfl, q⟩ := h
    refine ⟨_, (PSs.nox ((pss_one (ps_ret (pe_and (pe_callB (My.isiK (K := K) rfl) (by rfl) T.isinstance (by decide +kernel) (pa_cons (pv 0) (pa_cons (pe_bltn (v := .ty "int") (u := .type "int") rfl T.int (by decide +kernel) rfl) pa_nil))) (pe_and (pe_not (pe_callB (My.isiK (K := K) rfl) (by rfl) T.isinstance (by decide +kernel) (pa_cons (pv 0) (pa_cons (pe_bltn (v := .ty "bool") (u := .type "bool") rfl T.bool (by decide +kernel) rfl) pa_nil)))) (pe_one (pe_chain op_le op_le (pv 1) (pv 0) (pv 2))))))))), ?_⟩
    refine ⟨_, rfl, _, _, _, _, _, rfl, .ty "int", .base (.int n), L2.kit_ty (by decide +kernel), true, rfl, ?_⟩
    refine L2.iteT ?_
    refine ⟨_, rfl, _, _, _, _, _, rfl, .ty "bool", .base (.int n), L2.kit_ty (by decide +kernel), false, rfl, true, rfl, ?_⟩
    refine L2.iteT ?_
    refine ⟨_, rfl, _, rfl, _, _, rfl, rfl, _, rfl, ?_⟩
    refine L2.ite2 (fun c => ?_) (fun c => ?_)
    · refine ⟨_, rfl, _, _, rfl, rfl, ?_⟩
      rw [c] at q
      exact q
    · have e : decide (lo ≤ n) = false := by simpa using c
      rw [e] at q
      exact q
theorem c_is_integer_within (T : Txt w K mg) : C8.Cal P w K mg base 1 "is_integer_within" (sp_is_integer_within K) [] := by
  obtain ⟨fd, F⟩ := T.f_is_integer_within
  exact ⟨_, fd, _, _, ok_is_integer_within T F, T.g_is_integer_within, F.kp, F.bindsN (fun _ _ _ _ _ _ us hl => match us, hl with | [_, _, _], _ => rfl), .nil⟩
def sp_is_truth (K : PySem.W.Frag) : Sp := fun vs H Q _ => ∃ b : Bool, vs = [.bl b] ∧ Q (.bl true) H
set_option maxHeartbeats 2000000 in
theorem ok_is_truth (T : Txt w K mg) {fd : FuncData} (F : FunD K d_is_truth.name d_is_truth.qual d_is_truth.params d_is_truth.body d_is_truth.scope (d_is_truth.dvs K) (d_is_truth.kws K) (He.fAd K d_is_truth.at_) fd) : FnOk P w K mg base C8.CX0 1 (He.fAd K d_is_truth.at_) fd ["value"] (sp_is_truth K) := by
  refine F.ok sc_is_truth (fun vs H Q E h => ?_) (fun cdv A outer s H vs Q E hr h => ?_)
  · obtain ⟨b, rfl, _⟩ := h
    rfl
  · have hu := L2.hu_of hr
    obtain ⟨b, rfl, q⟩ := h
    refine ⟨_, (PSs.nox ((pss_one (ps_ret (pe_or (pe_cmpR op_isBl (pv 0) pe_bl (nomark _)) (pe_one (pe_cmpR op_isBl (pv 0) pe_bl (nomark _)))))))), ?_⟩
    refine ⟨_, rfl, _, _, rfl, rfl, _, rfl, ?_⟩
    cases b with
    | true => exact L2.iteT q
    | false => exact L2.iteF ⟨_, rfl, _, _, rfl, rfl, q⟩
theorem c_is_truth (T : Txt w K mg) : C8.Cal P w K mg base 1 "is_truth" (sp_is_truth K) [] := by
  obtain ⟨fd, F⟩ := T.f_is_truth
  exact ⟨_, fd, _, _, ok_is_truth T F, T.g_is_truth, F.kp, F.bindsN (fun _ _ _ _ _ _ us hl => match us, hl with | [_], _ => rfl), .nil⟩
def sp_is_word (K : PySem.W.Frag) : Sp := fun vs H Q _ => ∃ (x : Str) (a : Addr) (ws : List Str), vs = [.str x, .ref a] ∧ SqT K H a (ws.map V.str) ∧ Q (.bl (decide (x ∈ ws))) H
set_option maxHeartbeats 2000000 in
theorem ok_is_word (T : Txt w K mg) {fd : FuncData} (F : FunD K d_is_word.name d_is_word.qual d_is_word.params d_is_word.body d_is_word.scope (d_is_word.dvs K) (d_is_word.kws K) (He.fAd K d_is_word.at_) fd) : FnOk P w K mg base C8.CX0 1 (He.fAd K d_is_word.at_) fd ["value", "words"] (sp_is_word K) := by
  refine F.ok sc_is_word (fun vs H Q E h => ?_) (fun cdv A outer s H vs Q E hr h => ?_)
  · obtain ⟨x, a, ws, rfl, _⟩ := h
    rfl
  · have hu := L2.hu_of hr
    obtain ⟨x, a, ws, rfl, hS, q⟩ := h
    refine ⟨_, (PSs.nox ((pss_one (ps_ret (pe_and (pe_callB (My.isiK (K := K) rfl) (by rfl) T.isinstance (by decide +kernel) (pa_cons (pv 0) (pa_cons (pe_bltn (v := .ty "str") (u := .type "str") rfl T.str (by decide +kernel) rfl) pa_nil))) (pe_one (pe_cmpR (My.in_seqK (K := K) rfl) (pv 0) (pv 1) (by rfl)))))))), ?_⟩
    refine ⟨_, rfl, _, _, _, _, _, rfl, .ty "str", .base (.str x), L2.kit_ty (by decide +kernel), true, rfl, ?_⟩
    refine L2.iteT ?_
    refine ⟨_, rfl, _, rfl, a, _, rfl, .inr hS, rfl, My.all_flat_str ws, ?_⟩
    show Q (.bl (if false = true then _ else inV (.str x) (ws.map V.str))) H
    rw [if_neg Bool.false_ne_true, My.inV_str]
    exact q
theorem c_is_word (T : Txt w K mg) : C8.Cal P w K mg base 1 "is_word" (sp_is_word K) [] := by
  obtain ⟨fd, F⟩ := T.f_is_word
  exact ⟨_, fd, _, _, ok_is_word T F, T.g_is_word, F.kp, F.bindsN (fun _ _ _ _ _ _ us hl => match us, hl with | [_, _], _ => rfl), .nil⟩
end
end K15

namespace K15
open PySem PySem.Spec PyProof.Rows L2 My
/-! ### books -/
abbrev acts : List Str := ["free", "full", "off", "code", "void", "look", "lock"]
abbrev moms : List Str := ["given", "laid", "left", "opened", "taken", "gone", "late", "power"]
abbrev RuleL := List Str
def GoodRule (r : RuleL) : Prop := r.length ≤ 6 ∧ ∀ x ∈ r, x ∈ acts
/-- a rule as it stands: a tuple of texts -/
def RuleAt (K : PySem.W.Frag) (H : Hp) (a : Addr) (r : RuleL) : Prop := SqT K H a (r.map V.str)
def bkf (d : Int) (t : Addr) : List (Str × V) := [("_days", V.int d), ("_rules", V.ref t)]
/-- a book of d days with these rules -/
def BookAt (K : PySem.W.Frag) (H : Hp) (b : Addr) (d : Int) (rs : List RuleL) : Prop := ∃ (dx t : Addr) (as : List Addr), H b = some (.ins (He.ga K "Book") dx (bkf d t)) ∧ SqT K H t (as.map V.ref) ∧ Paired (RuleAt K H) as rs ∧ rs.length = 8
theorem RuleAt.but {K : PySem.W.Frag} {xs : List Addr} {H H' : Hp} {a : Addr} {r : RuleL} (s : But xs H H') (n : a ∉ xs) (h : RuleAt K H a r) : RuleAt K H' a r := s.tup n h
theorem paired_map {α β : Type} {F G : α → β → Prop} : ∀ {l : List α} {m : List β}, (∀ a b, a ∈ l → F a b → G a b) → Paired F l m → Paired G l m
  | _, _, _, .nil => .nil
  | _, _, h, .cons r t => .cons (h _ _ (List.mem_cons_self ..) r) (paired_map (fun a b m => h a b (List.mem_cons_of_mem _ m)) t)
theorem paired_get {α β : Type} {F : α → β → Prop} : ∀ {l : List α} {m : List β} {i : Nat} {b : β}, Paired F l m → m[i]? = some b → ∃ a, l[i]? = some a ∧ F a b
  | _, _, _, _, .nil, e => by simp at e
  | _, _, 0, _, .cons r _, e => by simp at e; subst e; exact ⟨_, rfl, r⟩
  | _, _, i + 1, _, .cons _ t, e => by
    obtain ⟨a, h1, h2⟩ := paired_get t (by simpa using e)
    exact ⟨a, by simpa using h1, h2⟩
theorem BookAt.same {K : PySem.W.Frag} {H H' : Hp} {b : Addr} {d : Int} {rs : List RuleL} (s : Same H H') (h : BookAt K H b d rs) : BookAt K H' b d rs := by
  obtain ⟨dx, t, as, h1, h2, h3, h4⟩ := h
  exact ⟨dx, t, as, s _ _ h1, same_tup s h2, paired_map (fun a b _ r => same_tup s r) h3, h4⟩
section
variable {P : Program} {w : World} {K : PySem.W.Frag} {mg : Str → Option Value} {base : Heap}
def sp_is_rule (K : PySem.W.Frag) : Sp := fun vs H Q _ => ∃ (a : Addr) (r : RuleL), vs = [.ref a] ∧ RuleAt K H a r ∧ GoodRule r ∧ ∀ H', Same H H' → Q (.bl true) H'
set_option maxHeartbeats 2000000 in
theorem ok_is_rule (T : Txt w K mg) {fd : FuncData} (F : FunD K d_is_rule.name d_is_rule.qual d_is_rule.params d_is_rule.body d_is_rule.scope (d_is_rule.dvs K) (d_is_rule.kws K) (He.fAd K d_is_rule.at_) fd) : FnOk P w K mg base C8.CX0 2 (He.fAd K d_is_rule.at_) fd ["value"] (sp_is_rule K) := by
  obtain ⟨t_MOST_ACTIONS, g_MOST_ACTIONS⟩ := T.g_MOST_ACTIONS
  have c_is_word := c_is_word (P := P) (w := w) (base := base) T
  refine F.ok sc_is_rule (fun vs H Q E h => ?_) (fun cdv A outer s H vs Q E hr h => ?_)
  · obtain ⟨a, r, rfl, _⟩ := h
    rfl
  · have hu := L2.hu_of hr
    obtain ⟨a, r, rfl, hS, hg, q⟩ := h
    refine ⟨_, (PSs.nox ((pss_cons (ps_if (PW.pt (pw_or (pt_not (pt_val (pe_callB (My.isiK (K := K) rfl) (by rfl) T.isinstance (by decide +kernel) (pa_cons (pv 0) (pa_cons (pe_bltn (v := .ty "tuple") (u := .type "tuple") rfl T.tuple (by decide +kernel) rfl) pa_nil))))) (pw_or1 (pt_cmpR op_gt (pe_callB (My.len_seqK (K := K) rfl) (by rfl) T.len (by decide +kernel) (pa_cons (pv 0) pa_nil)) (pe_glob (v := .int 6) rfl g_MOST_ACTIONS ⟨_, rfl⟩) (nomark _)))))
  (pss_one (ps_ret pe_bl))
  pss_nil)
  (pss_one (ps_ret (pe_callB (My.allK (K := K) rfl rfl) (by rfl) T.all (by decide +kernel) (pa_cons (pe_lc (own := [("action", 1)]) (g := (gName 1)) (tt := tYes) (by rfl) sc_is_rule.nd (My.pi_tupK (K := K) rfl (pv 0)) (blkOk_by (N := N_is_rule) (sc := defScope s_is_rule) (by decide +kernel)) (fun _ _ _ _ _ => (pg_name (i := 1) sc_is_rule.nd rfl (by first | exact Or.inl rfl | exact Or.inr rfl))) (fun _ _ _ _ _ => pts_nil) (fun _ _ _ _ _ => (C8.pe_c c_is_word hr (by decide) rfl (pa_cons (pv 1) (pa_cons (pe_glob (v := .ref (He.ga K "ACTIONS")) rfl T.g_ACTIONS rfl) pa_nil))))) pa_nil))))))), ?_⟩
    refine ⟨_, rfl, _, _, _, _, _, rfl, .ty "tuple", tyx_tup hS, L2.kit_ty (by decide +kernel), true, rfl, ?_⟩
    refine L2.iteF ?_
    refine ⟨_, rfl, a, _, rfl, .inr hS, _, _, rfl, rfl, _, rfl, ?_⟩
    have e : decide (((r.map V.str).length : Int) > 6) = false := decide_eq_false (by rw [List.length_map]; have := hg.1; omega)
    rw [e]
    refine L2.iteF ?_
    refine ⟨_, rfl, a, rfl, ⟨_, hS⟩, fun D hD => lc_tup (K := K) (a := a) (xs := r.map V.str) (fun i H' => Same H H' ∧ H' D = some (.lst ((List.replicate i true).map V.bl))) ⟨same_new hD, upd_same⟩ (fun i H' _ p => same_tup p.1 hS) ?_ ?_⟩
    · rintro i y H2 hi ⟨s2, hD2⟩
      obtain ⟨z, hz, rfl⟩ := map_get hi
      have hlt : i < r.length := (List.getElem?_eq_some_iff.mp hz).1
      have hm : z ∈ acts := hg.2 z (List.mem_of_getElem? hz)
      refine ⟨rfl, ?_⟩
      refine ⟨_, rfl, z, _, acts, rfl, T.tup_ACTIONS _, ?_⟩
      rw [decide_eq_true hm]
      refine ⟨_, hD2, ?_, same_upd s2 hD, ?_⟩
      · rw [List.length_map, List.length_replicate]
        have := hg.1
        exact Nat.lt_of_lt_of_le hlt (Nat.le_trans this (by decide))
      · rw [upd_same, List.replicate_succ', List.map_append]
        rfl
    · rintro H2 ⟨s2, hD2⟩
      refine ⟨D, _, rfl, SqL.of hD2, ?_⟩
      have e2 : (List.replicate (r.map V.str).length true).all id = true := List.all_eq_true.mpr fun x hx => (List.mem_replicate.mp hx).2
      rw [e2]
      exact q _ s2
theorem c_is_rule (T : Txt w K mg) : C8.Cal P w K mg base 2 "is_rule" (sp_is_rule K) [] := by
  obtain ⟨fd, F⟩ := T.f_is_rule
  exact ⟨_, fd, _, _, ok_is_rule T F, T.g_is_rule, F.kp, F.bindsN (fun _ _ _ _ _ _ us hl => match us, hl with | [_], _ => rfl), .nil⟩
def sp_Book_init (K : PySem.W.Frag) : Sp := fun vs H Q _ => ∃ (p dx : Addr) (d : Int) (as : List Addr) (rs : List RuleL), vs = .ref p :: .int d :: as.map V.ref ∧ H p = some (.ins (He.ga K "Book") dx []) ∧ 1 ≤ d ∧ d ≤ 30 ∧
  Paired (RuleAt K H) as rs ∧ rs.length = 8 ∧ (∀ r ∈ rs, GoodRule r) ∧ ∀ H' t, But [p] H H' → H' p = some (.ins (He.ga K "Book") dx (bkf d t)) → H' t = some (.tup (as.map V.ref)) → Q .non H'
theorem len8 {α β : Type} {F : α → β → Prop} {as : List α} {rs : List β} (h : Paired F as rs) (e : rs.length = 8) : ∃ a0 a1 a2 a3 a4 a5 a6 a7, as = [a0, a1, a2, a3, a4, a5, a6, a7] := by
  have l : as.length = 8 := h.length.trans e
  match as, l with
  | [a0, a1, a2, a3, a4, a5, a6, a7], _ => exact ⟨a0, a1, a2, a3, a4, a5, a6, a7, rfl⟩
set_option maxHeartbeats 2000000 in
theorem ok_Book_init (T : Txt w K mg) {fd : FuncData} (F : FunD K d_Book_init.name d_Book_init.qual d_Book_init.params d_Book_init.body d_Book_init.scope (d_Book_init.dvs K) (d_Book_init.kws K) (He.fAd K d_Book_init.at_) fd) : FnOk P w K mg base C8.CX0 3 (He.fAd K d_Book_init.at_) fd ["self", "days", "given", "laid", "left", "opened", "taken", "gone", "late", "power"] (sp_Book_init K) := by
  obtain ⟨t_MOST_DAYS, g_MOST_DAYS⟩ := T.g_MOST_DAYS
  have c_is_rule := c_is_rule (P := P) (w := w) (base := base) T
  have c_is_integer_within := c_is_integer_within (P := P) (w := w) (base := base) T
  refine F.ok sc_Book_init (fun vs H Q E h => ?_) (fun cdv A outer s H vs Q E hr h => ?_)
  · obtain ⟨p, dx, d, as, rs, rfl, _, _, _, h3, h4, _⟩ := h
    obtain ⟨a0, a1, a2, a3, a4, a5, a6, a7, rfl⟩ := len8 h3 h4
    rfl
  · have hu := L2.hu_of hr
    obtain ⟨p, dx, d, as, rs, rfl, hp, h1, h2, h3, h4, h5, q⟩ := h
    obtain ⟨a0, a1, a2, a3, a4, a5, a6, a7, rfl⟩ := len8 h3 h4
    refine ⟨_, (PSs.nox ((pss_cons (ps_if (pt_not (pt_val (C8.pe_c c_is_integer_within hr (by decide) rfl (pa_cons (pv 1) (pa_cons pe_int (pa_cons (pe_glob (v := .int 30) rfl g_MOST_DAYS ⟨_, rfl⟩) pa_nil))))))
  (pss_one ps_never)
  pss_nil)
  (pss_cons (ps_set (i := 10) sc_Book_init.nd rfl (by first | exact Or.inl rfl | exact Or.inr rfl) (pe_tup (pa_cons (pv 2) (pa_cons (pv 3) (pa_cons (pv 4) (pa_cons (pv 5) (pa_cons (pv 6) (pa_cons (pv 7) (pa_cons (pv 8) (pa_cons (pv 9) pa_nil))))))))))
  (pss_cons (ps_for PassesOwn.never rfl (RZ.pi_zipA (by rfl) T.zip (pa_cons (pe_glob (v := .ref (He.ga K "MOMENTS")) rfl T.g_MOMENTS rfl) (pa_cons (pv 10) pa_nil))) (My.pg_tupK (K := K) (n := 2) rfl rfl (pgs_cons (pg_name (i := 11) sc_Book_init.nd rfl (by first | exact Or.inl rfl | exact Or.inr rfl)) (pgs_cons (pg_name (i := 12) sc_Book_init.nd rfl (by first | exact Or.inl rfl | exact Or.inr rfl)) pgs_nil)))
  (pss_one (ps_if (pt_not (pt_val (C8.pe_c c_is_rule hr (by decide) rfl (pa_cons (pv 12) pa_nil))))
  (pss_one ps_never)
  pss_nil)))
  (pss_cons (ps_fld (pv 0) (pv 1) rfl)
  (pss_one (ps_fld (pv 0) (pv 10) rfl)))))))), ?_⟩
    refine ⟨_, rfl, d, 1, 30, rfl, true, by rw [decide_eq_true h1, decide_eq_true h2] <;> rfl, ?_⟩
    refine L2.iteF ?_
    refine ⟨_, rfl, _, rfl, _, rfl, _, rfl, _, rfl, _, rfl, _, rfl, _, rfl, by show 8 ≤ sizeLine; decide, fun t ht => ?_⟩
    have npt : p ≠ t := ne_of_none hp ht
    refine ⟨_, rfl, _, _, moms.map V.str, [V.ref a0, V.ref a1, V.ref a2, V.ref a3, V.ref a4, V.ref a5, V.ref a6, V.ref a7], rfl, .inr ⟨T.tup_MOMENTS _, SqT.of upd_same, ?_⟩⟩
    refine RZ.for_zipT (K := K) (xs := moms.map V.str) (ys := [V.ref a0, V.ref a1, V.ref a2, V.ref a3, V.ref a4, V.ref a5, V.ref a6, V.ref a7]) rfl (fun i σ H' => ∃ u v, σ = [some (.ref p), some (.int d), some (.ref a0), some (.ref a1), some (.ref a2), some (.ref a3), some (.ref a4), some (.ref a5), some (.ref a6), some (.ref a7), some (.ref t), u, v] ∧ Same (upd H t (.tup [V.ref a0, V.ref a1, V.ref a2, V.ref a3, V.ref a4, V.ref a5, V.ref a6, V.ref a7])) H')
      ⟨_, _, rfl, Same.refl _⟩ (fun i σ H' ⟨_, _, _, s⟩ => ⟨T.tup_MOMENTS _, same_tup s (SqT.of upd_same)⟩) ?_ ?_
    · rintro i x y T2 σ H2 hx hy ⟨u, v, rfl, s2⟩ hT2
      refine ⟨_, _, rfl, SqT.of upd_same, rfl, _, _, rfl, _, _, rfl, rfl, ?_⟩
      have hy' : ([a0, a1, a2, a3, a4, a5, a6, a7].map V.ref)[i]? = some y := hy
      obtain ⟨a, ha, rfl⟩ := map_get hy'
      obtain ⟨r, hr1, hr2⟩ : ∃ r, rs[i]? = some r ∧ RuleAt K H a r := by
        have hlt : i < rs.length := by rw [h4]; exact (List.getElem?_eq_some_iff.mp ha).1
        obtain ⟨b, hb, hR⟩ := paired_get h3 (List.getElem?_eq_getElem hlt)
        rw [ha] at hb
        cases hb
        exact ⟨_, List.getElem?_eq_getElem hlt, hR⟩
      have s3 : Same H (upd H2 T2 (.tup [x, .ref a])) := (same_new ht).trans (s2.trans (same_new hT2))
      refine ⟨_, rfl, a, r, rfl, same_tup s3 hr2, h5 r (List.mem_of_getElem? hr1), fun H3 s4 => ?_⟩
      refine ⟨true, rfl, L2.iteF ⟨_, _, rfl, s2.trans ((same_new hT2).trans s4)⟩⟩
    · rintro σ H2 ⟨u, v, rfl, s2⟩
      have hp2 : H2 p = some (.ins (He.ga K "Book") dx []) := s2 _ _ (by rw [upd_ne npt]; exact hp)
      have ht2 : H2 t = some (.tup [V.ref a0, V.ref a1, V.ref a2, V.ref a3, V.ref a4, V.ref a5, V.ref a6, V.ref a7]) := s2 _ _ upd_same
      refine ⟨_, rfl, _, rfl, p, _, dx, _, rfl, hp2, T.cl_Book, T.no_Book__days, (by show 0 < 1000; decide), ?_⟩
      refine ⟨_, rfl, _, rfl, p, _, dx, _, rfl, upd_same, T.cl_Book, T.no_Book__rules, (by show 1 < 1000; decide), ?_⟩
      refine q _ t ?_ upd_same ?_
      · exact (((But.of ((same_new ht).trans s2)).put (.inr (by simp))).put (.inr (by simp)))
      · rw [upd_ne npt.symm, upd_ne npt.symm]
        exact ht2
theorem c_Book_init (T : Txt w K mg) : C8.Mak P w K mg base 3 "Book" (He.ga K "Book") (sp_Book_init K) [] := by
  obtain ⟨fd, F⟩ := T.f_Book_init
  obtain ⟨ds, rd, bd⟩ := F.binds1 (ps := ["self", "days", "given", "laid", "left", "opened", "taken", "gone", "late", "power"]) 10 8 (by intro z; cases z) rfl (fun T kV doc pm an cdv ct us its hl hi => match us, its, hl, hi with | [_, _, _, _, _, _, _, _, _, _], [_, _, _, _, _, _, _, _], _, _ => ⟨_, rfl, rfl⟩)
  exact ⟨_, fd, _, _, T.mk_Book, ok_Book_init T F, T.g_Book, bd, rd⟩
def sp_Book_days (K : PySem.W.Frag) : Sp := fun vs H Q _ => ∃ (b : Addr) (d : Int) (rs : List RuleL), vs = [.ref b] ∧ BookAt K H b d rs ∧ Q (.int d) H
set_option maxHeartbeats 2000000 in
theorem ok_Book_days (T : Txt w K mg) {fd : FuncData} (F : FunD K d_Book_days.name d_Book_days.qual d_Book_days.params d_Book_days.body d_Book_days.scope (d_Book_days.dvs K) (d_Book_days.kws K) (He.fAd K d_Book_days.at_) fd) : FnOk P w K mg base C8.CX0 1 (He.fAd K d_Book_days.at_) fd ["self"] (sp_Book_days K) := by
  refine F.ok sc_Book_days (fun vs H Q E h => ?_) (fun cdv A outer s H vs Q E hr h => ?_)
  · obtain ⟨b, d, rs, rfl, _⟩ := h
    rfl
  · have hu := L2.hu_of hr
    obtain ⟨b, d, rs, rfl, ⟨dx, t, as, hb, _⟩, q⟩ := h
    refine ⟨_, (PSs.nox ((pss_one (ps_ret (My.pe_fldK (K := K) rfl (pv 0) rfl))))), ?_⟩
    exact ⟨_, rfl, b, _, dx, _, _, rfl, hb, T.cl_Book, T.no_Book__days, rfl, q⟩
theorem c_Book_days (T : Txt w K mg) : C8.Met P w K mg base 1 (He.ga K "Book") "days" (sp_Book_days K) [] := by
  obtain ⟨fd, F⟩ := T.f_Book_days
  exact ⟨_, fd, _, _, T.cl_Book, T.m_Book_days, ok_Book_days T F, F.bindsN (fun _ _ _ _ _ _ us hl => match us, hl with | [_], _ => rfl), .nil⟩
/-- the rule of the i-th moment -/
def sp_Book_rule (K : PySem.W.Frag) : Sp := fun vs H Q _ => ∃ (H0 : Hp) (b : Addr) (d : Int) (rs : List RuleL) (m : Str) (i : Nat) (r : RuleL), vs = [.ref b, .str m] ∧ Same H0 H ∧ BookAt K H0 b d rs ∧ moms[i]? = some m ∧ rs[i]? = some r ∧ ∀ a, RuleAt K H0 a r → Q (.ref a) H
set_option maxHeartbeats 2000000 in
theorem ok_Book_rule (T : Txt w K mg) {fd : FuncData} (F : FunD K d_Book_rule.name d_Book_rule.qual d_Book_rule.params d_Book_rule.body d_Book_rule.scope (d_Book_rule.dvs K) (d_Book_rule.kws K) (He.fAd K d_Book_rule.at_) fd) : FnOk P w K mg base C8.CX0 2 (He.fAd K d_Book_rule.at_) fd ["self", "moment"] (sp_Book_rule K) := by
  have c_is_word := c_is_word (P := P) (w := w) (base := base) T
  refine F.ok sc_Book_rule (fun vs H Q E h => ?_) (fun cdv A outer s H vs Q E hr h => ?_)
  · obtain ⟨H0, b, d, rs, m, i, r, rfl, _⟩ := h
    rfl
  · have hu := L2.hu_of hr
    obtain ⟨H0, b, d, rs, m, i, r, rfl, s0, ⟨dx, t, as, hb0, ht0, hrs, hl⟩, hm, hr1, q⟩ := h
    have hb := s0 _ _ hb0
    have ht := same_tup s0 ht0
    refine ⟨_, (PSs.nox ((pss_cons (ps_if (pt_not (pt_val (C8.pe_c c_is_word hr (by decide) rfl (pa_cons (pv 1) (pa_cons (pe_glob (v := .ref (He.ga K "MOMENTS")) rfl T.g_MOMENTS rfl) pa_nil)))))
  (pss_one ps_never)
  pss_nil)
  (pss_one (ps_ret (pe_ix (My.ix_tupK (K := K) rfl) (My.pe_fldK (K := K) rfl (pv 0) rfl) (My.pe_bmK (K := K) rfl PySem.F.plainAttrs_tuple PySem.F.slot_tuple_index PySem.F.type_tuple_index (My.tup_indexK (K := K) rfl) (pe_glob (v := .ref (He.ga K "MOMENTS")) rfl T.g_MOMENTS rfl) (pa_cons (pv 1) pa_nil)) (fun _ _ => rfl))))))), ?_⟩
    have hmem : m ∈ moms := List.mem_of_getElem? hm
    refine ⟨_, rfl, m, _, moms, rfl, T.tup_MOMENTS _, true, by rw [decide_eq_true hmem], ?_⟩
    refine L2.iteF ?_
    obtain ⟨a, ha, hR⟩ := paired_get hrs hr1
    have first : ∀ j, j < i → moms[j]? ≠ some m := by
      intro j hj e
      have hn : moms.Nodup := by decide +kernel
      exact absurd (L2.nd_ix hn e hm) (by omega)
    refine ⟨_, rfl, b, _, dx, _, _, rfl, hb, T.cl_Book, T.no_Book__rules, rfl, T.ty_MOMENTS _, _, rfl, _, moms, m, i, rfl, rfl, T.tup_MOMENTS _, hm, first, ?_⟩
    refine ⟨t, _, _, _, rfl, rfl, ht, atI_nat (by rw [List.getElem?_map, ha]; rfl), q a hR⟩
theorem c_Book_rule (T : Txt w K mg) : C8.Met P w K mg base 2 (He.ga K "Book") "rule" (sp_Book_rule K) [] := by
  obtain ⟨fd, F⟩ := T.f_Book_rule
  exact ⟨_, fd, _, _, T.cl_Book, T.m_Book_rule, ok_Book_rule T F, F.bindsN (fun _ _ _ _ _ _ us hl => match us, hl with | [_, _], _ => rfl), .nil⟩
end
end K15

namespace K15
open PySem PySem.Spec PyProof.Rows L2 My StX
/-! ### books by another rule, books by name -/
section
variable {P : Program} {w : World} {K : PySem.W.Frag} {mg : Str → Option Value} {base : Heap}
theorem paired_set {α β : Type} {F : α → β → Prop} : ∀ {l : List α} {m : List β} {a : α} {b : β} (i : Nat), Paired F l m → F a b → Paired F (l.set i a) (m.set i b)
  | _, _, _, _, _, .nil, _ => .nil
  | _, _, _, _, 0, .cons _ t, h => .cons h t
  | _, _, _, _, i + 1, .cons r t, h => .cons r (paired_set i t h)
theorem ixN_nat {n i : Nat} (h : i < n) : ixN n (i : Int) = some i := by
  unfold ixN
  rw [if_pos (by omega), if_pos (by omega), Int.toNat_natCast]
def sp_Book_with_rule (K : PySem.W.Frag) : Sp := fun vs H Q _ => ∃ (b a : Addr) (d : Int) (rs : List RuleL) (m : Str) (i : Nat) (r : RuleL), vs = [.ref b, .str m, .ref a] ∧ BookAt K H b d rs ∧ moms[i]? = some m ∧ RuleAt K H a r ∧ GoodRule r ∧ (∀ r ∈ rs, GoodRule r) ∧ 1 ≤ d ∧ d ≤ 30 ∧
  ∀ H' p, H p = none → Same H H' → BookAt K H' p d (rs.set i r) → Q (.ref p) H'
set_option maxHeartbeats 2000000 in
theorem ok_Book_with_rule (T : Txt w K mg) {fd : FuncData} (F : FunD K d_Book_with_rule.name d_Book_with_rule.qual d_Book_with_rule.params d_Book_with_rule.body d_Book_with_rule.scope (d_Book_with_rule.dvs K) (d_Book_with_rule.kws K) (He.fAd K d_Book_with_rule.at_) fd) : FnOk P w K mg base C8.CX0 5 (He.fAd K d_Book_with_rule.at_) fd ["self", "moment", "rule"] (sp_Book_with_rule K) := by
  have c_Book_init := c_Book_init (P := P) (w := w) (base := base) T
  have c_is_word := c_is_word (P := P) (w := w) (base := base) T
  refine F.ok sc_Book_with_rule (fun vs H Q E h => ?_) (fun cdv A outer s H vs Q E hr h => ?_)
  · obtain ⟨b, a, d, rs, m, i, r, rfl, _⟩ := h
    rfl
  · have hu := L2.hu_of hr
    obtain ⟨b, a, d, rs, m, i, r, rfl, ⟨dxb, t, as, hb, ht, hrs, hl⟩, hm, hR, hg, hgs, h1, h2, q⟩ := h
    refine ⟨_, (PSs.nox ((pss_cons (ps_if (pt_not (pt_val (C8.pe_c c_is_word hr (by decide) rfl (pa_cons (pv 1) (pa_cons (pe_glob (v := .ref (He.ga K "MOMENTS")) rfl T.g_MOMENTS rfl) pa_nil)))))
  (pss_one ps_never)
  pss_nil)
  (pss_cons (ps_set (i := 3) sc_Book_with_rule.nd rfl (by first | exact Or.inl rfl | exact Or.inr rfl) (pe_callTy (My.list_ofK (K := K) rfl) (by rfl) T.list (by decide +kernel) (pa_cons (My.pe_fldK (K := K) rfl (pv 0) rfl) pa_nil)))
  (pss_cons (ps_asg (pv 2) (pg_sub (pv 3) (My.pe_bmK (K := K) rfl PySem.F.plainAttrs_tuple PySem.F.slot_tuple_index PySem.F.type_tuple_index (My.tup_indexK (K := K) rfl) (pe_glob (v := .ref (He.ga K "MOMENTS")) rfl T.g_MOMENTS rfl) (pa_cons (pv 1) pa_nil)) set_list))
  (pss_one (ps_ret (My.pe_mkS2 c_Book_init hr (by decide) rfl (pa_cons (My.pe_fldK (K := K) rfl (pv 0) rfl) (My.pa_starK (K := K) rfl (pv 3) pa_nil)))))))))), ?_⟩
    have hmem : m ∈ moms := List.mem_of_getElem? hm
    have hi8 : i < 8 := (List.getElem?_eq_some_iff.mp hm).1
    refine ⟨_, rfl, m, _, moms, rfl, T.tup_MOMENTS _, true, by rw [decide_eq_true hmem], ?_⟩
    refine L2.iteF ?_
    have first : ∀ j, j < i → moms[j]? ≠ some m := by
      intro j hj e
      have hn : moms.Nodup := by decide +kernel
      exact absurd (L2.nd_ix hn e hm) (by omega)
    refine ⟨_, rfl, b, _, dxb, _, _, rfl, hb, T.cl_Book, T.no_Book__rules, rfl, t, _, rfl, .inr ht, fun l hl0 => ?_⟩
    have hal : as.length = 8 := hrs.length.trans hl
    have es : (as.map V.ref).set i (.ref a) = (as.set i a).map V.ref := by rw [List.map_set]
    refine ⟨_, rfl, _, rfl, T.ty_MOMENTS _, _, rfl, _, moms, m, i, rfl, rfl, T.tup_MOMENTS _, hm, first, l, _, _, i, rfl, rfl, upd_same, ixN_nat (by rw [List.length_map, hal]; exact hi8), ?_⟩
    rw [es]
    have s0 : Same H (upd (upd H l (.lst (as.map V.ref))) l (.lst ((as.set i a).map V.ref))) := same_upd (same_new hl0) hl0
    have hl3 : upd (upd H l (.lst (as.map V.ref))) l (.lst ((as.set i a).map V.ref)) l = some (.lst ((as.set i a).map V.ref)) := upd_same
    generalize upd (upd H l (.lst (as.map V.ref))) l (.lst ((as.set i a).map V.ref)) = H1 at s0 hl3
    refine ⟨_, rfl, b, _, dxb, _, _, rfl, s0 _ _ hb, T.cl_Book, T.no_Book__days, rfl, _, rfl, l, _, rfl, .inr (SqL.of hl3), ?_⟩
    intro x dx nx ndx nex
    have s1 : Same H1 (upd (upd H1 dx (.own x)) x (.ins (He.ga K "Book") dx [])) := (same_new ndx).trans (same_upd (Same.refl _) (by rw [upd_ne nex.symm]; exact nx))
    have s2 := s0.trans s1
    refine ⟨x, dx, d, as.set i a, rs.set i r, by rw [List.append_nil, List.append_nil], upd_same, h1, h2, paired_set i (paired_map (fun a r _ hr => same_tup s2 hr) hrs) (same_tup s2 hR), by rw [List.length_set]; exact hl, fun y hy => ?_, fun H' t2 bt hx ht2 => ⟨rfl, ?_⟩⟩
    · rcases List.mem_or_eq_of_mem_set hy with hy | hy
      · exact hgs y hy
      · rw [hy]; exact hg
    have s3 : Same H1 H' := fun c o e => bt c o (by simpa using ne_of_none e nx) (s1 _ _ e)
    have s4 := s0.trans s3
    exact q _ x (s0.free nx) s4 ⟨dx, t2, _, hx, SqT.of ht2, paired_set i (paired_map (fun a r _ hr => same_tup s4 hr) hrs) (same_tup s4 hR), by rw [List.length_set]; exact hl⟩
theorem c_Book_with_rule (T : Txt w K mg) : C8.Met P w K mg base 5 (He.ga K "Book") "with_rule" (sp_Book_with_rule K) [] := by
  obtain ⟨fd, F⟩ := T.f_Book_with_rule
  exact ⟨_, fd, _, _, T.cl_Book, T.m_Book_with_rule, ok_Book_with_rule T F, F.bindsN (fun _ _ _ _ _ _ us hl => match us, hl with | [_, _, _], _ => rfl), .nil⟩
def gB {α : Type} (us its ws : List α) : List α := us ++ ws ++ its.drop 6
theorem kn_Book_init (T : Txt w K mg) : My.MakN P w K mg base 3 "Book" (He.ga K "Book") (sp_Book_init K) 4 ["opened", "taken", "gone"] (fun vs zs => gB vs (d_Book_init.dvs K) zs) := by
  obtain ⟨fd, F⟩ := T.f_Book_init
  obtain ⟨its, hb⟩ := F.kbindsD (ps := ["self", "days", "given", "laid", "left", "opened", "taken", "gone", "late", "power"]) 5 ["opened", "taken", "gone"] (fun us its ws => gB us its ws) (by intro z; cases z)
    (fun r1 r2 r3 => (r1.append r3).append (My.vals_drop 6 r2))
    (fun T kV doc pm an cdv ct us its ws h1 h2 h3 => match us, its, ws, h1, h2, h3 with | [_, _, _, _, _], [_, _, _, _, _, _, _, _], [_, _, _], _, _, _ => ⟨_, rfl, rfl⟩)
  exact ⟨_, fd, _, _, T.mk_Book, ok_Book_init T F, T.g_Book, hb⟩
end
end K15

namespace K15
open PySem PySem.Spec PyProof.Rows L2 My
/-! ### springs: where a law's draws come from -/
/-- at a: a spring that was drawn from at most n times -/
def SpringAt (H : Hp) (a : Addr) (n : Nat) : Prop := ∃ w0 w1 w2 : Int, H a = some (.lst [.int w0, .int w1, .int w2]) ∧ w1.natAbs < 2 ^ 200 ∧ 0 ≤ w2 ∧ w2 ≤ (n : Int)
theorem SpringAt.mono {H : Hp} {a : Addr} {n m : Nat} (h : SpringAt H a n) (e : n ≤ m) : SpringAt H a m := by
  obtain ⟨w0, w1, w2, h1, h2, h3, h4⟩ := h
  exact ⟨w0, w1, w2, h1, h2, h3, by omega⟩
theorem pow_lt {x : Int} {k n : Nat} (h : x.natAbs < 2 ^ k) (hn : n ≠ 0) : (x ^ n).natAbs < 2 ^ (k * n) := by
  rw [Int.natAbs_pow, Nat.pow_mul]
  exact Nat.pow_lt_pow_left h hn
theorem two_le {a b x : Nat} (h : x < 2 ^ a) (e : a ≤ b) : x < 2 ^ b := Nat.lt_of_lt_of_le h (Nat.pow_le_pow_right (by decide) e)
theorem add_lt {x y : Int} {k : Nat} (h1 : x.natAbs < 2 ^ k) (h2 : y.natAbs < 2 ^ k) : (x + y).natAbs < 2 ^ (k + 1) := by
  have h3 := Int.natAbs_add_le x y
  have h4 : 2 ^ (k + 1) = 2 ^ k + 2 ^ k := by rw [Nat.pow_succ]; omega
  omega
theorem emod_lt2 {x m : Int} {k : Nat} (h0 : 0 < m) (h : m.natAbs < 2 ^ k) : (x % m).natAbs < 2 ^ k := by
  have h1 := Int.emod_nonneg x (show m ≠ 0 by omega)
  have h2 := Int.emod_lt_of_pos x h0
  omega
set_option exponentiation.threshold 20000 in
theorem powW {x j : Int} {k : Nat} (h : x.natAbs < 2 ^ k) (hk : k ≤ 10000) (h1 : 0 ≤ j) (h2 : j ≤ 100) : CPowW x j := ⟨h1, h2, two_le h hk⟩
theorem ten_pow {j : Int} (h1 : 0 ≤ j) (h2 : j ≤ 100) : CPowW 10 j := powW (k := 4) (by decide) (by decide) h1 h2
section
variable {P : Program} {w : World} {K : PySem.W.Frag} {mg : Str → Option Value} {base : Heap}
def sp_law_drop (K : PySem.W.Frag) : Sp := fun vs H Q _ => ∃ (a : Addr) (n : Nat) (many : Int), vs = [.ref a, .int many] ∧ SpringAt H a n ∧ n < 2 ^ 100 ∧ 0 < many ∧ many < 2 ^ 100 ∧
  ∀ H' k, But [a] H H' → SpringAt H' a (n + 1) → 0 ≤ k → k < many → Q (.int k) H'
def sp_law_spring (K : PySem.W.Frag) : Sp := fun vs H Q _ => ∃ (a : Addr) (ns : List Int) (k : Int), vs = [.ref a, .int k] ∧ SqL K H a (ns.map V.int) ∧ 0 ≤ k ∧ k < 100 ∧
  ∀ H' p, H p = none → Same H H' → SpringAt H' p 1 → Q (.ref p) H'
end
end K15

namespace K15
open PySem PySem.Spec PyProof.Rows L2 My
theorem SpringAt.put {H : Hp} {a b : Addr} {n : Nat} {o : HO} (h : SpringAt H a n) (ne : a ≠ b) : SpringAt (upd H b o) a n := by
  obtain ⟨w0, w1, w2, h1, h2⟩ := h
  exact ⟨w0, w1, w2, by rw [upd_ne ne]; exact h1, h2⟩
theorem SpringAt.same {H H' : Hp} {a : Addr} {n : Nat} (s : Same H H') (h : SpringAt H a n) : SpringAt H' a n := by
  obtain ⟨w0, w1, w2, h1, h2⟩ := h
  exact ⟨w0, w1, w2, s _ _ h1, h2⟩
/-- a list of other things stands apart from a spring -/
theorem SpringAt.ne {H : Hp} {a b : Addr} {n : Nat} {o : HO} (h : SpringAt H a n) (hb : H b = some o) (no : ∀ i r, o ≠ .lst (.int i :: r)) : a ≠ b := by
  obtain ⟨w0, w1, w2, h1, _⟩ := h
  exact ne_of h1 hb fun z => no _ _ z.symm
theorem strs_no (ws : List Str) (i : Int) (r : List V) : HO.lst (ws.map V.str) ≠ .lst (.int i :: r) := by
  intro z
  cases ws with
  | nil => cases z
  | cons x l => cases z
theorem refs_no (ws : List Addr) (i : Int) (r : List V) : HO.lst (ws.map V.ref) ≠ .lst (.int i :: r) := by
  intro z
  cases ws with
  | nil => cases z
  | cons x l => cases z
theorem tup_no (ws : List V) (i : Int) (r : List V) : HO.tup ws ≠ .lst (.int i :: r) := fun z => by cases z
/-- a tuple stands as it was behind a change of a spring -/
theorem But.tupS {K : PySem.W.Frag} {H H' : Hp} {a b : Addr} {n : Nat} {xs : List V} (s : But [a] H H') (h : SpringAt H a n) (t : SqT K H b xs) : SqT K H' b xs := by
  obtain ⟨w0, w1, w2, h1, _⟩ := h
  rcases t with (t | ⟨o, t⟩) | t
  · exact .inl (.inl (s _ _ (by simpa using (ne_of t h1 (fun z => by cases z))) t))
  · exact .inl (.inr ⟨o, s _ _ (by simpa using (ne_of t h1 (fun z => by cases z))) t⟩)
  · exact .inr t
theorem lstS {K : PySem.W.Frag} {H H' : Hp} {a b : Addr} {n : Nat} {xs : List V} (s : But [a] H H') (h : SpringAt H a n) (t : SqL K H b xs) (no : ∀ i r, HO.lst xs ≠ .lst (.int i :: r)) : SqL K H' b xs := by
  obtain ⟨w0, w1, w2, h1, _⟩ := h
  rcases t with (t | ⟨o, t⟩) | t
  · exact .inl (.inl (s _ _ (by simpa using (ne_of t h1 (fun z => no _ _ z))) t))
  · exact .inl (.inr ⟨o, s _ _ (by simpa using (ne_of t h1 (fun z => by cases z))) t⟩)
  · exact .inr t
end K15

namespace K15
open PySem PySem.Spec PyProof.Rows L2 My
/-! ### deeds -/
inductive Deed where
  | bring (l s : Bool) | code (p : Int) (t s : Bool) | pass | day | power
  deriving DecidableEq
def Deed.w : Deed → Str
  | .bring _ _ => "bring"
  | .code _ _ _ => "code"
  | .pass => "pass"
  | .day => "day"
  | .power => "power"
def Deed.vs : Deed → List V
  | .bring l s => [.str "bring", .bl l, .bl s]
  | .code p t s => [.str "code", .int p, .bl t, .bl s]
  | .pass => [.str "pass"]
  | .day => [.str "day"]
  | .power => [.str "power"]
def Deed.Ok : Deed → Prop
  | .code p _ _ => 1 ≤ p ∧ p ≤ 1000000000
  | _ => True
def DeedAt (K : PySem.W.Frag) (H : Hp) (v : V) (d : Deed) : Prop := ∃ a, v = .ref a ∧ SqT K H a d.vs
def isBr : Deed → Bool
  | .bring _ _ => true
  | _ => false
def brs (l : List Deed) : Nat := l.countP isBr
def Playable (ds : List Deed) : Prop := ds.length ≤ 100000000 ∧ ∀ i p t s, ds[i]? = some (.code p t s) → 1 ≤ p ∧ p ≤ (brs (ds.take i) : Int)
theorem brs_le (l : List Deed) : brs l ≤ l.length := List.countP_le_length
theorem Playable.ok {ds : List Deed} (h : Playable ds) : ∀ d ∈ ds, d.Ok := by
  intro d hd
  obtain ⟨i, hi⟩ := List.mem_iff_getElem?.mp hd
  cases d with
  | code p t s =>
    obtain ⟨h1, h2⟩ := h.2 i p t s hi
    have h3 := brs_le (ds.take i)
    have h4 : (ds.take i).length ≤ ds.length := by rw [List.length_take]; omega
    have h5 := h.1
    exact ⟨h1, by omega⟩
  | _ => trivial
theorem take_more {α : Type} {l : List α} {i : Nat} {x : α} (h : l[i]? = some x) : l.take (i + 1) = l.take i ++ [x] := by
  rw [List.take_add_one, h]
  rfl
theorem brs_more {l : List Deed} {i : Nat} {d : Deed} (h : l[i]? = some d) : brs (l.take (i + 1)) = brs (l.take i) + (if isBr d then 1 else 0) := by
  unfold brs
  rw [take_more h, List.countP_append, List.countP_singleton]
section
variable {P : Program} {w : World} {K : PySem.W.Frag} {mg : Str → Option Value} {base : Heap}
def sp_are_truths (K : PySem.W.Frag) : Sp := fun vs H Q _ => ∃ (a : Addr) (bs : List Bool), vs = [.ref a] ∧ SqT K H a (bs.map V.bl) ∧ bs.length ≤ 100 ∧ ∀ H', Same H H' → Q (.bl true) H'
set_option maxHeartbeats 2000000 in
theorem ok_are_truths (T : Txt w K mg) {fd : FuncData} (F : FunD K d_are_truths.name d_are_truths.qual d_are_truths.params d_are_truths.body d_are_truths.scope (d_are_truths.dvs K) (d_are_truths.kws K) (He.fAd K d_are_truths.at_) fd) : FnOk P w K mg base C8.CX0 2 (He.fAd K d_are_truths.at_) fd ["values"] (sp_are_truths K) := by
  have c_is_truth := c_is_truth (P := P) (w := w) (base := base) T
  refine F.ok sc_are_truths (fun vs H Q E h => ?_) (fun cdv A outer s H vs Q E hr h => ?_)
  · obtain ⟨a, bs, rfl, _⟩ := h
    rfl
  · have hu := L2.hu_of hr
    obtain ⟨a, bs, rfl, hS, hl, q⟩ := h
    refine ⟨_, (PSs.nox ((pss_one (ps_ret (pe_callB (My.allK (K := K) rfl rfl) (by rfl) T.all (by decide +kernel) (pa_cons (pe_lc (own := [("value", 1)]) (g := (gName 1)) (tt := tYes) (by rfl) sc_are_truths.nd (My.pi_tupK (K := K) rfl (pv 0)) (blkOk_by (N := N_are_truths) (sc := defScope s_are_truths) (by decide +kernel)) (fun _ _ _ _ _ => (pg_name (i := 1) sc_are_truths.nd rfl (by first | exact Or.inl rfl | exact Or.inr rfl))) (fun _ _ _ _ _ => pts_nil) (fun _ _ _ _ _ => (C8.pe_c c_is_truth hr (by decide) rfl (pa_cons (pv 1) pa_nil)))) pa_nil)))))), ?_⟩
    refine ⟨_, rfl, a, rfl, ⟨_, hS⟩, fun D hD => lc_tup (K := K) (a := a) (xs := bs.map V.bl) (fun i H' => Same H H' ∧ H' D = some (.lst ((List.replicate i true).map V.bl))) ⟨same_new hD, upd_same⟩ (fun i H' _ p => same_tup p.1 hS) ?_ ?_⟩
    · rintro i y H2 hi ⟨s2, hD2⟩
      obtain ⟨z, hz, rfl⟩ := map_get hi
      have hlt : i < bs.length := (List.getElem?_eq_some_iff.mp hz).1
      refine ⟨rfl, ?_⟩
      refine ⟨_, rfl, z, rfl, _, hD2, ?_, same_upd s2 hD, ?_⟩
      · rw [List.length_map, List.length_replicate]
        exact Nat.lt_of_lt_of_le (show i < 100 by omega) (by decide)
      · rw [upd_same, List.replicate_succ', List.map_append]
        rfl
    · rintro H2 ⟨s2, hD2⟩
      refine ⟨D, _, rfl, SqL.of hD2, ?_⟩
      have e2 : (List.replicate (bs.map V.bl).length true).all id = true := List.all_eq_true.mpr fun x hx => (List.mem_replicate.mp hx).2
      rw [e2]
      exact q _ s2
theorem c_are_truths (T : Txt w K mg) : C8.Cal P w K mg base 2 "are_truths" (sp_are_truths K) [] := by
  obtain ⟨fd, F⟩ := T.f_are_truths
  exact ⟨_, fd, _, _, ok_are_truths T F, T.g_are_truths, F.kp, F.bindsN (fun _ _ _ _ _ _ us hl => match us, hl with | [_], _ => rfl), .nil⟩
def sp_is_deed (K : PySem.W.Frag) : Sp := fun vs H Q _ => ∃ (v : V) (d : Deed), vs = [v] ∧ DeedAt K H v d ∧ d.Ok ∧ ∀ H', Same H H' → Q (.bl true) H'
set_option maxHeartbeats 2000000 in
theorem ok_is_deed (T : Txt w K mg) {fd : FuncData} (F : FunD K d_is_deed.name d_is_deed.qual d_is_deed.params d_is_deed.body d_is_deed.scope (d_is_deed.dvs K) (d_is_deed.kws K) (He.fAd K d_is_deed.at_) fd) : FnOk P w K mg base C8.CX0 3 (He.fAd K d_is_deed.at_) fd ["value"] (sp_is_deed K) := by
  obtain ⟨t_MOST_PARCEL, g_MOST_PARCEL⟩ := T.g_MOST_PARCEL
  have c_are_truths := c_are_truths (P := P) (w := w) (base := base) T
  have c_is_integer_within := c_is_integer_within (P := P) (w := w) (base := base) T
  refine F.ok sc_is_deed (fun vs H Q E h => ?_) (fun cdv A outer s H vs Q E hr h => ?_)
  · obtain ⟨v, d, rfl, _⟩ := h
    rfl
  · have hu := L2.hu_of hr
    obtain ⟨v, d, rfl, ⟨a, rfl, hS⟩, hok, q⟩ := h
    refine ⟨_, (PSs.nox ((pss_cons (ps_if (PW.pt (pw_or (pt_not (pt_val (pe_callB (My.isiK (K := K) rfl) (by rfl) T.isinstance (by decide +kernel) (pa_cons (pv 0) (pa_cons (pe_bltn (v := .ty "tuple") (u := .type "tuple") rfl T.tuple (by decide +kernel) rfl) pa_nil))))) (pw_or (pt_cmpR op_eq (pe_callB (My.len_seqK (K := K) rfl) (by rfl) T.len (by decide +kernel) (pa_cons (pv 0) pa_nil)) pe_int (nomark _)) (pw_or1 (pt_not (pt_val (pe_callB (My.isiK (K := K) rfl) (by rfl) T.isinstance (by decide +kernel) (pa_cons (pe_ix (My.ix_tupK (K := K) rfl) (pv 0) pe_int (fun _ _ => rfl)) (pa_cons (pe_bltn (v := .ty "str") (u := .type "str") rfl T.str (by decide +kernel) rfl) pa_nil)))))))))
  (pss_one (ps_ret pe_bl))
  pss_nil)
  (pss_cons (ps_set (i := 1) sc_is_deed.nd rfl (by first | exact Or.inl rfl | exact Or.inr rfl) (pe_ix (My.ix_tupK (K := K) rfl) (pv 0) pe_int (fun _ _ => rfl)))
  (pss_cons (ps_if (pt_cmpR op_eq (pv 1) pe_str (nomark _))
  (pss_one (ps_ret (pe_and (pe_cmpR op_eq (pe_callB (My.len_seqK (K := K) rfl) (by rfl) T.len (by decide +kernel) (pa_cons (pv 0) pa_nil)) pe_int (nomark _)) (pe_one (C8.pe_c c_are_truths hr (by decide) rfl (pa_cons (pe_slice (My.sl_tupAK (K := K) rfl) (pv 0) (po_some pe_int) po_none) pa_nil))))))
  pss_nil)
  (pss_cons (ps_if (pt_cmpR op_eq (pv 1) pe_str (nomark _))
  (pss_one (ps_ret (pe_and (pe_cmpR op_eq (pe_callB (My.len_seqK (K := K) rfl) (by rfl) T.len (by decide +kernel) (pa_cons (pv 0) pa_nil)) pe_int (nomark _)) (pe_and (C8.pe_c c_is_integer_within hr (by decide) rfl (pa_cons (pe_ix (My.ix_tupK (K := K) rfl) (pv 0) pe_int (fun _ _ => rfl)) (pa_cons pe_int (pa_cons (pe_glob (v := .int 1000000000) rfl g_MOST_PARCEL ⟨_, rfl⟩) pa_nil)))) (pe_one (C8.pe_c c_are_truths hr (by decide) rfl (pa_cons (pe_slice (My.sl_tupAK (K := K) rfl) (pv 0) (po_some pe_int) po_none) pa_nil)))))))
  pss_nil)
  (pss_one (ps_ret (pe_and (pe_cmpR op_eq (pe_callB (My.len_seqK (K := K) rfl) (by rfl) T.len (by decide +kernel) (pa_cons (pv 0) pa_nil)) pe_int (nomark _)) (pe_one (pe_cmpR (My.in_seqK (K := K) rfl) (pv 1) (pe_glob (v := .ref (He.ga K "SINGLE_WORDS")) rfl T.g_SINGLE_WORDS rfl) (by rfl)))))))))))), ?_⟩
    have len : ∀ k : Int, decide (V.int ((d.vs.length : Nat) : Int) = V.int k) = decide ((d.vs.length : Int) = k) := fun k => decide_eq_decide.mpr ⟨fun z => V.int.inj z, fun z => congrArg V.int z⟩
    have w0 : atI d.vs 0 = some (.str d.w) := by cases d <;> rfl
    have l0 : decide (V.int ((d.vs.length : Nat) : Int) = V.int 0) = false := by rw [len]; cases d <;> rfl
    refine ⟨_, rfl, _, _, _, _, _, rfl, .ty "tuple", tyx_tup hS, L2.kit_ty (by decide +kernel), true, rfl, ?_⟩
    refine ⟨_, rfl, a, _, rfl, .inr hS, rfl, _, rfl, ?_⟩
    rw [l0]
    refine ⟨_, rfl, a, _, _, _, rfl, rfl, hS, w0, _, _, _, _, _, rfl, .ty "str", .base (.str d.w), L2.kit_ty (by decide +kernel), true, rfl, ?_⟩
    refine ⟨_, rfl, a, _, _, _, rfl, rfl, hS, w0, ?_⟩
    refine ⟨_, rfl, rfl, _, rfl, ?_⟩
    cases d with
    | bring l s =>
      refine ⟨_, rfl, a, _, rfl, .inr hS, rfl, _, rfl, ?_⟩
      refine ⟨_, rfl, 1, rfl, a, _, rfl, hS, fun z => absurd (show HT.sIx 3 0 (some 1) = 0 from z.1) (by decide), fun _ p hp => ?_⟩
      exact ⟨p, [l, s], rfl, SqT.of upd_same, (by show 2 ≤ 100; decide), fun H' s' => q _ ((same_new hp).trans s')⟩
    | code p t s =>
      refine ⟨_, rfl, rfl, _, rfl, ?_⟩
      refine ⟨_, rfl, a, _, rfl, .inr hS, rfl, _, rfl, ?_⟩
      refine ⟨_, rfl, a, _, 1, _, rfl, rfl, hS, rfl, p, 1, 1000000000, rfl, true, ?_, ?_⟩
      · rw [decide_eq_true hok.1, decide_eq_true hok.2]
        rfl
      refine ⟨_, rfl, 2, rfl, a, _, rfl, hS, fun z => absurd (show HT.sIx 4 0 (some 2) = 0 from z.1) (by decide), fun _ p2 hp => ?_⟩
      exact ⟨p2, [t, s], rfl, SqT.of upd_same, (by show 2 ≤ 100; decide), fun H' s' => q _ ((same_new hp).trans s')⟩
    | pass =>
      refine ⟨_, rfl, rfl, _, rfl, ?_⟩
      refine ⟨_, rfl, a, _, rfl, .inr hS, rfl, _, rfl, ?_⟩
      exact ⟨_, rfl, _, _, rfl, .inr (T.tup_SINGLE_WORDS _), rfl, rfl, q _ (Same.refl _)⟩
    | day =>
      refine ⟨_, rfl, rfl, _, rfl, ?_⟩
      refine ⟨_, rfl, a, _, rfl, .inr hS, rfl, _, rfl, ?_⟩
      exact ⟨_, rfl, _, _, rfl, .inr (T.tup_SINGLE_WORDS _), rfl, rfl, q _ (Same.refl _)⟩
    | power =>
      refine ⟨_, rfl, rfl, _, rfl, ?_⟩
      refine ⟨_, rfl, a, _, rfl, .inr hS, rfl, _, rfl, ?_⟩
      exact ⟨_, rfl, _, _, rfl, .inr (T.tup_SINGLE_WORDS _), rfl, rfl, q _ (Same.refl _)⟩
theorem c_is_deed (T : Txt w K mg) : C8.Cal P w K mg base 3 "is_deed" (sp_is_deed K) [] := by
  obtain ⟨fd, F⟩ := T.f_is_deed
  exact ⟨_, fd, _, _, ok_is_deed T F, T.g_is_deed, F.kp, F.bindsN (fun _ _ _ _ _ _ us hl => match us, hl with | [_], _ => rfl), .nil⟩
def DeedsAt (K : PySem.W.Frag) (H : Hp) (xs : List V) (ds : List Deed) : Prop := Paired (DeedAt K H) xs ds
theorem DeedsAt.same {K : PySem.W.Frag} {H H' : Hp} {xs : List V} {ds : List Deed} (s : Same H H') (h : DeedsAt K H xs ds) : DeedsAt K H' xs ds :=
  paired_map (fun v d _ hd => by
    obtain ⟨a, e, h2⟩ := hd
    exact ⟨a, e, same_tup s h2⟩) h
theorem paired_at {α β : Type} {F : α → β → Prop} : ∀ {l : List α} {m : List β} {i : Nat} {a : α}, Paired F l m → l[i]? = some a → ∃ b, m[i]? = some b ∧ F a b
  | _, _, _, _, .nil, e => by simp at e
  | _, _, 0, _, .cons r _, e => by simp at e; subst e; exact ⟨_, rfl, r⟩
  | _, _, i + 1, _, .cons _ t, e => by
    obtain ⟨a, h1, h2⟩ := paired_at t (by simpa using e)
    exact ⟨a, by simpa using h1, h2⟩
def sp_check_are_deeds (K : PySem.W.Frag) : Sp := fun vs H Q _ => ∃ (a : Addr) (xs : List V) (ds : List Deed), vs = [.ref a] ∧ SqL K H a xs ∧ DeedsAt K H xs ds ∧ (∀ d ∈ ds, d.Ok) ∧ ∀ H', Same H H' → Q .non H'
set_option maxHeartbeats 2000000 in
theorem ok_check_are_deeds (T : Txt w K mg) {fd : FuncData} (F : FunD K d_check_are_deeds.name d_check_are_deeds.qual d_check_are_deeds.params d_check_are_deeds.body d_check_are_deeds.scope (d_check_are_deeds.dvs K) (d_check_are_deeds.kws K) (He.fAd K d_check_are_deeds.at_) fd) : FnOk P w K mg base C8.CX0 4 (He.fAd K d_check_are_deeds.at_) fd ["deeds"] (sp_check_are_deeds K) := by
  have c_is_deed := c_is_deed (P := P) (w := w) (base := base) T
  refine F.ok sc_check_are_deeds (fun vs H Q E h => ?_) (fun cdv A outer s H vs Q E hr h => ?_)
  · obtain ⟨a, xs, ds, rfl, _⟩ := h
    rfl
  · have hu := L2.hu_of hr
    obtain ⟨a, xs, ds, rfl, hS, hD, hok, q⟩ := h
    refine ⟨_, (PSs.nox ((pss_cons (ps_if (pt_not (pt_val (pe_callB (My.isiK (K := K) rfl) (by rfl) T.isinstance (by decide +kernel) (pa_cons (pv 0) (pa_cons (pe_bltn (v := .ty "list") (u := .type "list") rfl T.list (by decide +kernel) rfl) pa_nil)))))
  (pss_one ps_never)
  pss_nil)
  (pss_one (ps_for PassesOwn.never rfl (pi_enum (by rfl) T.enumerate (pa_cons (pv 0) pa_nil)) (My.pg_tupK (K := K) (n := 2) rfl rfl (pgs_cons (pg_name (i := 1) sc_check_are_deeds.nd rfl (by first | exact Or.inl rfl | exact Or.inr rfl)) (pgs_cons (pg_name (i := 2) sc_check_are_deeds.nd rfl (by first | exact Or.inl rfl | exact Or.inr rfl)) pgs_nil)))
  (pss_one (ps_if (pt_not (pt_val (C8.pe_c c_is_deed hr (by decide) rfl (pa_cons (pv 2) pa_nil))))
  (pss_one ps_never)
  pss_nil))))))), ?_⟩
    refine ⟨_, rfl, _, _, _, _, _, rfl, .ty "list", tyx_lst hS, L2.kit_ty (by decide +kernel), true, rfl, ?_⟩
    refine ⟨_, rfl, a, xs, rfl, hS, ?_⟩
    refine for_it (walk_enum (xs := xs)) (fun i σ H' => ∃ u v, σ = [some (.ref a), u, v] ∧ Same H H') ⟨_, _, rfl, Same.refl _⟩ (fun i σ H' _ ⟨_, _, _, s⟩ => s.seq hS) ?_ ?_
    · rintro i x σ H2 H3 hi ⟨u, v, rfl, s2⟩ ⟨t, x1, y, rfl, ht, rfl, e1, hy⟩
      cases e1
      obtain ⟨d, hd, hat⟩ := paired_at hD hy
      have s3 := s2.trans (same_new (o := .tup [.int (i : Nat), y]) ht)
      refine ⟨t, _, rfl, SqT.of upd_same, rfl, _, _, rfl, _, _, rfl, rfl, ?_⟩
      obtain ⟨b, rfl, hb⟩ := hat
      refine ⟨_, rfl, _, d, rfl, ⟨b, rfl, same_tup s3 hb⟩, hok d (List.mem_of_getElem? hd), fun H4 s4 => ?_⟩
      exact ⟨true, rfl, _, _, rfl, s3.trans s4⟩
    · rintro σ H2 ⟨u, v, rfl, s2⟩
      exact q _ s2
theorem c_check_are_deeds (T : Txt w K mg) : C8.Cal P w K mg base 4 "check_are_deeds" (sp_check_are_deeds K) [] := by
  obtain ⟨fd, F⟩ := T.f_check_are_deeds
  exact ⟨_, fd, _, _, ok_check_are_deeds T F, T.g_check_are_deeds, F.kp, F.bindsN (fun _ _ _ _ _ _ us hl => match us, hl with | [_], _ => rfl), .nil⟩
def sp_check_playable (K : PySem.W.Frag) : Sp := fun vs H Q _ => ∃ (a : Addr) (xs : List V) (ds : List Deed), vs = [.ref a] ∧ SqL K H a xs ∧ DeedsAt K H xs ds ∧ Playable ds ∧ ∀ H', Same H H' → Q .non H'
set_option maxHeartbeats 2000000 in
theorem ok_check_playable (T : Txt w K mg) {fd : FuncData} (F : FunD K d_check_playable.name d_check_playable.qual d_check_playable.params d_check_playable.body d_check_playable.scope (d_check_playable.dvs K) (d_check_playable.kws K) (He.fAd K d_check_playable.at_) fd) : FnOk P w K mg base C8.CX0 5 (He.fAd K d_check_playable.at_) fd ["deeds"] (sp_check_playable K) := by
  have c_check_are_deeds := c_check_are_deeds (P := P) (w := w) (base := base) T
  refine F.ok sc_check_playable (fun vs H Q E h => ?_) (fun cdv A outer s H vs Q E hr h => ?_)
  · obtain ⟨a, xs, ds, rfl, _⟩ := h
    rfl
  · have hu := L2.hu_of hr
    obtain ⟨a, xs, ds, rfl, hS, hD, hok, q⟩ := h
    refine ⟨_, (PSs.nox ((pss_cons (ps_expr (C8.pe_c c_check_are_deeds hr (by decide) rfl (pa_cons (pv 0) pa_nil)))
  (pss_cons (ps_set (i := 1) sc_check_playable.nd rfl (by first | exact Or.inl rfl | exact Or.inr rfl) pe_int)
  (pss_one (ps_for PassesOwn.never rfl (pi_enum (by rfl) T.enumerate (pa_cons (pv 0) pa_nil)) (My.pg_tupK (K := K) (n := 2) rfl rfl (pgs_cons (pg_name (i := 2) sc_check_playable.nd rfl (by first | exact Or.inl rfl | exact Or.inr rfl)) (pgs_cons (pg_name (i := 3) sc_check_playable.nd rfl (by first | exact Or.inl rfl | exact Or.inr rfl)) pgs_nil)))
  (pss_one (ps_if (pt_cmpR op_eq (pe_ix (My.ix_tupK (K := K) rfl) (pv 3) pe_int (fun _ _ => rfl)) pe_str (nomark _))
  (pss_one (ps_aug (i := 1) sc_check_playable.nd rfl (by first | exact Or.inl rfl | exact Or.inr rfl) pe_int ip_add))
  (pss_one (ps_if (PW.pt (pw_and (pt_cmpR op_eq (pe_ix (My.ix_tupK (K := K) rfl) (pv 3) pe_int (fun _ _ => rfl)) pe_str (nomark _)) (pw_and1 (pt_cmpR op_gt (pe_ix (My.ix_tupK (K := K) rfl) (pv 3) pe_int (fun _ _ => rfl)) (pv 1) (nomark _)))))
  (pss_one ps_never)
  pss_nil)))))))))), ?_⟩
    refine ⟨_, rfl, a, xs, ds, rfl, hS, hD, hok.ok, fun H1 s1 => ?_⟩
    refine ⟨_, rfl, a, xs, rfl, s1.seq hS, ?_⟩
    refine for_it (walk_enum (xs := xs)) (fun i σ H' => ∃ u v, σ = [some (.ref a), some (.int (brs (ds.take i) : Nat)), u, v] ∧ Same H H') ⟨_, _, rfl, s1⟩ (fun i σ H' _ ⟨_, _, _, s⟩ => s.seq hS) ?_ ?_
    · rintro i x σ H2 H3 hi ⟨u, v, rfl, s2⟩ ⟨t, x1, y, rfl, ht, rfl, e1, hy⟩
      cases e1
      obtain ⟨d, hd, hat⟩ := paired_at hD hy
      have s3 := s2.trans (same_new (o := .tup [.int (i : Nat), y]) ht)
      refine ⟨t, _, rfl, SqT.of upd_same, rfl, _, _, rfl, _, _, rfl, rfl, ?_⟩
      obtain ⟨b, rfl, hb⟩ := hat
      have hb3 := same_tup s3 hb
      have w0 : atI d.vs 0 = some (.str d.w) := by cases d <;> rfl
      refine ⟨_, rfl, b, _, _, _, rfl, rfl, hb3, w0, rfl, _, rfl, ?_⟩
      have more := brs_more hd
      cases d with
      | bring l s =>
        refine ⟨_, rfl, _, _, rfl, rfl, some (.int (i : Nat)), some (.ref b), ?_, s3⟩
        rw [more]
        rfl
      | code p t1 s =>
        refine ⟨_, rfl, b, _, _, _, rfl, rfl, hb3, w0, rfl, _, rfl, ?_⟩
        refine ⟨_, rfl, b, _, 1, _, rfl, rfl, hb3, rfl, _, rfl, _, _, rfl, rfl, _, rfl, ?_⟩
        have hle := (hok.2 i p t1 s hd).2
        rw [show decide (((brs (ds.take i) : Nat) : Int) < p) = false from decide_eq_false (by omega)]
        refine ⟨some (.int (i : Nat)), some (.ref b), ?_, s3⟩
        rw [more]
        rfl
      | pass =>
        refine ⟨_, rfl, b, _, _, _, rfl, rfl, hb3, w0, rfl, _, rfl, ?_⟩
        exact ⟨some (.int (i : Nat)), some (.ref b), by rw [more] <;> rfl, s3⟩
      | day =>
        refine ⟨_, rfl, b, _, _, _, rfl, rfl, hb3, w0, rfl, _, rfl, ?_⟩
        exact ⟨some (.int (i : Nat)), some (.ref b), by rw [more] <;> rfl, s3⟩
      | power =>
        refine ⟨_, rfl, b, _, _, _, rfl, rfl, hb3, w0, rfl, _, rfl, ?_⟩
        exact ⟨some (.int (i : Nat)), some (.ref b), by rw [more] <;> rfl, s3⟩
    · rintro σ H2 ⟨u, v, rfl, s2⟩
      exact q _ s2
theorem c_check_playable (T : Txt w K mg) : C8.Cal P w K mg base 5 "check_playable" (sp_check_playable K) [] := by
  obtain ⟨fd, F⟩ := T.f_check_playable
  exact ⟨_, fd, _, _, ok_check_playable T F, T.g_check_playable, F.kp, F.bindsN (fun _ _ _ _ _ _ us hl => match us, hl with | [_], _ => rfl), .nil⟩
end
end K15

namespace K15
open PySem PySem.Spec PyProof.Rows L2 My
/-! ### the box: what it is, what a deed does to it -/
structure BoxS where
  ajar : Bool
  inside : List Int
  tf : Str
  valid : List Int
  age : Option Int
  last : Option Int
  sent : List Int
  served : List Int
structure ToldS where
  letters : List Int
  opened : Bool
  got : List Int
  wrongs : List Str
  moments : List Str
def oV : Option Int → V
  | none => .non
  | some i => .int i
def kvT (l : List Int) : List (Key × V) := l.map fun i => (Sum.inl i, V.bl true)
def bxf (S : BoxS) (li dv ds dr : Addr) : List (Str × V) :=
  [("ajar", .bl S.ajar), ("inside", .ref li), ("taken_for", .str S.tf), ("valid", .ref dv), ("age", oV S.age), ("last", oV S.last), ("sent", .ref ds), ("served", .ref dr)]
def tdf (T : ToldS) (yb : Bool) (ll lg lw lm : Addr) : List (Str × V) := [("letters", .ref ll), ("opened", .bl T.opened), ("got", .ref lg), ("lays", .bl yb), ("wrongs", .ref lw), ("moments", .ref lm)]
theorem nd_ne {α : Type} {l : List α} {a b : α} (h : l.Nodup) {i j : Nat} (hi : l[i]? = some a) (hj : l[j]? = some b) (ne : i ≠ j) : a ≠ b := by
  intro e
  subst e
  exact ne (L2.nd_ix h hi hj)
theorem nd_put {α : Type} {l : List α} {p : α} {i : Nat} (h : l.Nodup) (hp : p ∉ l) : (l.set i p).Nodup := by
  induction l generalizing i with
  | nil => simp
  | cons a r ih =>
    rw [List.nodup_cons] at h
    simp only [List.mem_cons, not_or] at hp
    cases i with
    | zero =>
      rw [List.set_cons_zero, List.nodup_cons]
      exact ⟨hp.2, h.2⟩
    | succ i =>
      rw [List.set_cons_succ, List.nodup_cons]
      refine ⟨fun hm => ?_, ih h.2 hp.2⟩
      rcases List.mem_or_eq_of_mem_set hm with z | z
      · exact h.1 z
      · exact hp.1 z.symm
structure BT (K : PySem.W.Frag) (H0 H : Hp) (b dx li dv ds dr : Addr) (S : BoxS) (t dt : Addr) (yb : Bool) (ll lg lw lm : Addr) (T : ToldS) : Prop where
  same : Same H0 H
  nd : [b, li, dv, ds, dr, t, ll, lg, lw, lm].Nodup
  new : ∀ a ∈ [b, li, dv, ds, dr, t, ll, lg, lw, lm], H0 a = none
  hb : H b = some (.ins (He.ga K "Box") dx (bxf S li dv ds dr))
  hli : H li = some (.lst (S.inside.map V.int))
  hdv : H dv = some (.dK (kvT S.valid))
  hds : H ds = some (.dK (kvT S.sent))
  hdr : H dr = some (.dK (kvT S.served))
  ht : H t = some (.ins (He.ga K "Told") dt (tdf T yb ll lg lw lm))
  hll : H ll = some (.lst (T.letters.map V.int))
  hlg : H lg = some (.lst (T.got.map V.int))
  hlw : H lw = some (.lst (T.wrongs.map V.str))
  hlm : H lm = some (.lst (T.moments.map V.str))
section
variable {K : PySem.W.Frag} {H0 H : Hp} {b dx li dv ds dr : Addr} {S S' : BoxS} {t dt : Addr} {yb : Bool} {ll lg lw lm : Addr} {T T' : ToldS}
theorem BT.set_b (h : BT K H0 H b dx li dv ds dr S t dt yb ll lg lw lm T) (e1 : S'.inside = S.inside) (e2 : S'.valid = S.valid) (e3 : S'.sent = S.sent) (e4 : S'.served = S.served) : BT K H0 (upd H b (.ins (He.ga K "Box") dx (bxf S' li dv ds dr))) b dx li dv ds dr S' t dt yb ll lg lw lm T where
  same := same_upd h.same (h.new b (by simp))
  nd := h.nd
  new := h.new
  hb := upd_same
  hli := by rw [upd_ne (nd_ne h.nd (i := 1) (j := 0) rfl rfl (by decide)), e1]; exact h.hli
  hdv := by rw [upd_ne (nd_ne h.nd (i := 2) (j := 0) rfl rfl (by decide)), e2]; exact h.hdv
  hds := by rw [upd_ne (nd_ne h.nd (i := 3) (j := 0) rfl rfl (by decide)), e3]; exact h.hds
  hdr := by rw [upd_ne (nd_ne h.nd (i := 4) (j := 0) rfl rfl (by decide)), e4]; exact h.hdr
  ht := by rw [upd_ne (nd_ne h.nd (i := 5) (j := 0) rfl rfl (by decide))]; exact h.ht
  hll := by rw [upd_ne (nd_ne h.nd (i := 6) (j := 0) rfl rfl (by decide))]; exact h.hll
  hlg := by rw [upd_ne (nd_ne h.nd (i := 7) (j := 0) rfl rfl (by decide))]; exact h.hlg
  hlw := by rw [upd_ne (nd_ne h.nd (i := 8) (j := 0) rfl rfl (by decide))]; exact h.hlw
  hlm := by rw [upd_ne (nd_ne h.nd (i := 9) (j := 0) rfl rfl (by decide))]; exact h.hlm
theorem BT.set_li (h : BT K H0 H b dx li dv ds dr S t dt yb ll lg lw lm T) (e : S' = { S with inside := S'.inside }) : BT K H0 (upd H li (.lst (S'.inside.map V.int))) b dx li dv ds dr S' t dt yb ll lg lw lm T where
  same := same_upd h.same (h.new li (by simp))
  nd := h.nd
  new := h.new
  hb := by rw [upd_ne (nd_ne h.nd (i := 0) (j := 1) rfl rfl (by decide)), e]; exact h.hb
  hli := upd_same
  hdv := by rw [upd_ne (nd_ne h.nd (i := 2) (j := 1) rfl rfl (by decide)), e]; exact h.hdv
  hds := by rw [upd_ne (nd_ne h.nd (i := 3) (j := 1) rfl rfl (by decide)), e]; exact h.hds
  hdr := by rw [upd_ne (nd_ne h.nd (i := 4) (j := 1) rfl rfl (by decide)), e]; exact h.hdr
  ht := by rw [upd_ne (nd_ne h.nd (i := 5) (j := 1) rfl rfl (by decide))]; exact h.ht
  hll := by rw [upd_ne (nd_ne h.nd (i := 6) (j := 1) rfl rfl (by decide))]; exact h.hll
  hlg := by rw [upd_ne (nd_ne h.nd (i := 7) (j := 1) rfl rfl (by decide))]; exact h.hlg
  hlw := by rw [upd_ne (nd_ne h.nd (i := 8) (j := 1) rfl rfl (by decide))]; exact h.hlw
  hlm := by rw [upd_ne (nd_ne h.nd (i := 9) (j := 1) rfl rfl (by decide))]; exact h.hlm
theorem BT.set_dv (h : BT K H0 H b dx li dv ds dr S t dt yb ll lg lw lm T) (e : S' = { S with valid := S'.valid }) : BT K H0 (upd H dv (.dK (kvT S'.valid))) b dx li dv ds dr S' t dt yb ll lg lw lm T where
  same := same_upd h.same (h.new dv (by simp))
  nd := h.nd
  new := h.new
  hb := by rw [upd_ne (nd_ne h.nd (i := 0) (j := 2) rfl rfl (by decide)), e]; exact h.hb
  hli := by rw [upd_ne (nd_ne h.nd (i := 1) (j := 2) rfl rfl (by decide)), e]; exact h.hli
  hdv := upd_same
  hds := by rw [upd_ne (nd_ne h.nd (i := 3) (j := 2) rfl rfl (by decide)), e]; exact h.hds
  hdr := by rw [upd_ne (nd_ne h.nd (i := 4) (j := 2) rfl rfl (by decide)), e]; exact h.hdr
  ht := by rw [upd_ne (nd_ne h.nd (i := 5) (j := 2) rfl rfl (by decide))]; exact h.ht
  hll := by rw [upd_ne (nd_ne h.nd (i := 6) (j := 2) rfl rfl (by decide))]; exact h.hll
  hlg := by rw [upd_ne (nd_ne h.nd (i := 7) (j := 2) rfl rfl (by decide))]; exact h.hlg
  hlw := by rw [upd_ne (nd_ne h.nd (i := 8) (j := 2) rfl rfl (by decide))]; exact h.hlw
  hlm := by rw [upd_ne (nd_ne h.nd (i := 9) (j := 2) rfl rfl (by decide))]; exact h.hlm
theorem BT.set_ds (h : BT K H0 H b dx li dv ds dr S t dt yb ll lg lw lm T) (e : S' = { S with sent := S'.sent }) : BT K H0 (upd H ds (.dK (kvT S'.sent))) b dx li dv ds dr S' t dt yb ll lg lw lm T where
  same := same_upd h.same (h.new ds (by simp))
  nd := h.nd
  new := h.new
  hb := by rw [upd_ne (nd_ne h.nd (i := 0) (j := 3) rfl rfl (by decide)), e]; exact h.hb
  hli := by rw [upd_ne (nd_ne h.nd (i := 1) (j := 3) rfl rfl (by decide)), e]; exact h.hli
  hdv := by rw [upd_ne (nd_ne h.nd (i := 2) (j := 3) rfl rfl (by decide)), e]; exact h.hdv
  hds := upd_same
  hdr := by rw [upd_ne (nd_ne h.nd (i := 4) (j := 3) rfl rfl (by decide)), e]; exact h.hdr
  ht := by rw [upd_ne (nd_ne h.nd (i := 5) (j := 3) rfl rfl (by decide))]; exact h.ht
  hll := by rw [upd_ne (nd_ne h.nd (i := 6) (j := 3) rfl rfl (by decide))]; exact h.hll
  hlg := by rw [upd_ne (nd_ne h.nd (i := 7) (j := 3) rfl rfl (by decide))]; exact h.hlg
  hlw := by rw [upd_ne (nd_ne h.nd (i := 8) (j := 3) rfl rfl (by decide))]; exact h.hlw
  hlm := by rw [upd_ne (nd_ne h.nd (i := 9) (j := 3) rfl rfl (by decide))]; exact h.hlm
theorem BT.set_dr (h : BT K H0 H b dx li dv ds dr S t dt yb ll lg lw lm T) (e : S' = { S with served := S'.served }) : BT K H0 (upd H dr (.dK (kvT S'.served))) b dx li dv ds dr S' t dt yb ll lg lw lm T where
  same := same_upd h.same (h.new dr (by simp))
  nd := h.nd
  new := h.new
  hb := by rw [upd_ne (nd_ne h.nd (i := 0) (j := 4) rfl rfl (by decide)), e]; exact h.hb
  hli := by rw [upd_ne (nd_ne h.nd (i := 1) (j := 4) rfl rfl (by decide)), e]; exact h.hli
  hdv := by rw [upd_ne (nd_ne h.nd (i := 2) (j := 4) rfl rfl (by decide)), e]; exact h.hdv
  hds := by rw [upd_ne (nd_ne h.nd (i := 3) (j := 4) rfl rfl (by decide)), e]; exact h.hds
  hdr := upd_same
  ht := by rw [upd_ne (nd_ne h.nd (i := 5) (j := 4) rfl rfl (by decide))]; exact h.ht
  hll := by rw [upd_ne (nd_ne h.nd (i := 6) (j := 4) rfl rfl (by decide))]; exact h.hll
  hlg := by rw [upd_ne (nd_ne h.nd (i := 7) (j := 4) rfl rfl (by decide))]; exact h.hlg
  hlw := by rw [upd_ne (nd_ne h.nd (i := 8) (j := 4) rfl rfl (by decide))]; exact h.hlw
  hlm := by rw [upd_ne (nd_ne h.nd (i := 9) (j := 4) rfl rfl (by decide))]; exact h.hlm
theorem BT.set_t (h : BT K H0 H b dx li dv ds dr S t dt yb ll lg lw lm T) (e1 : T'.letters = T.letters) (e2 : T'.got = T.got) (e3 : T'.wrongs = T.wrongs) (e4 : T'.moments = T.moments) : BT K H0 (upd H t (.ins (He.ga K "Told") dt (tdf T' yb ll lg lw lm))) b dx li dv ds dr S t dt yb ll lg lw lm T' where
  same := same_upd h.same (h.new t (by simp))
  nd := h.nd
  new := h.new
  hb := by rw [upd_ne (nd_ne h.nd (i := 0) (j := 5) rfl rfl (by decide))]; exact h.hb
  hli := by rw [upd_ne (nd_ne h.nd (i := 1) (j := 5) rfl rfl (by decide))]; exact h.hli
  hdv := by rw [upd_ne (nd_ne h.nd (i := 2) (j := 5) rfl rfl (by decide))]; exact h.hdv
  hds := by rw [upd_ne (nd_ne h.nd (i := 3) (j := 5) rfl rfl (by decide))]; exact h.hds
  hdr := by rw [upd_ne (nd_ne h.nd (i := 4) (j := 5) rfl rfl (by decide))]; exact h.hdr
  ht := upd_same
  hll := by rw [upd_ne (nd_ne h.nd (i := 6) (j := 5) rfl rfl (by decide)), e1]; exact h.hll
  hlg := by rw [upd_ne (nd_ne h.nd (i := 7) (j := 5) rfl rfl (by decide)), e2]; exact h.hlg
  hlw := by rw [upd_ne (nd_ne h.nd (i := 8) (j := 5) rfl rfl (by decide)), e3]; exact h.hlw
  hlm := by rw [upd_ne (nd_ne h.nd (i := 9) (j := 5) rfl rfl (by decide)), e4]; exact h.hlm
theorem BT.set_y (h : BT K H0 H b dx li dv ds dr S t dt yb ll lg lw lm T) (y2 : Bool) : BT K H0 (upd H t (.ins (He.ga K "Told") dt (tdf T y2 ll lg lw lm))) b dx li dv ds dr S t dt y2 ll lg lw lm T where
  same := same_upd h.same (h.new t (by simp))
  nd := h.nd
  new := h.new
  hb := by rw [upd_ne (nd_ne h.nd (i := 0) (j := 5) rfl rfl (by decide))]; exact h.hb
  hli := by rw [upd_ne (nd_ne h.nd (i := 1) (j := 5) rfl rfl (by decide))]; exact h.hli
  hdv := by rw [upd_ne (nd_ne h.nd (i := 2) (j := 5) rfl rfl (by decide))]; exact h.hdv
  hds := by rw [upd_ne (nd_ne h.nd (i := 3) (j := 5) rfl rfl (by decide))]; exact h.hds
  hdr := by rw [upd_ne (nd_ne h.nd (i := 4) (j := 5) rfl rfl (by decide))]; exact h.hdr
  ht := upd_same
  hll := by rw [upd_ne (nd_ne h.nd (i := 6) (j := 5) rfl rfl (by decide))]; exact h.hll
  hlg := by rw [upd_ne (nd_ne h.nd (i := 7) (j := 5) rfl rfl (by decide))]; exact h.hlg
  hlw := by rw [upd_ne (nd_ne h.nd (i := 8) (j := 5) rfl rfl (by decide))]; exact h.hlw
  hlm := by rw [upd_ne (nd_ne h.nd (i := 9) (j := 5) rfl rfl (by decide))]; exact h.hlm
theorem BT.set_ll (h : BT K H0 H b dx li dv ds dr S t dt yb ll lg lw lm T) (e : T' = { T with letters := T'.letters }) : BT K H0 (upd H ll (.lst (T'.letters.map V.int))) b dx li dv ds dr S t dt yb ll lg lw lm T' where
  same := same_upd h.same (h.new ll (by simp))
  nd := h.nd
  new := h.new
  hb := by rw [upd_ne (nd_ne h.nd (i := 0) (j := 6) rfl rfl (by decide))]; exact h.hb
  hli := by rw [upd_ne (nd_ne h.nd (i := 1) (j := 6) rfl rfl (by decide))]; exact h.hli
  hdv := by rw [upd_ne (nd_ne h.nd (i := 2) (j := 6) rfl rfl (by decide))]; exact h.hdv
  hds := by rw [upd_ne (nd_ne h.nd (i := 3) (j := 6) rfl rfl (by decide))]; exact h.hds
  hdr := by rw [upd_ne (nd_ne h.nd (i := 4) (j := 6) rfl rfl (by decide))]; exact h.hdr
  ht := by rw [upd_ne (nd_ne h.nd (i := 5) (j := 6) rfl rfl (by decide)), e]; exact h.ht
  hll := upd_same
  hlg := by rw [upd_ne (nd_ne h.nd (i := 7) (j := 6) rfl rfl (by decide)), e]; exact h.hlg
  hlw := by rw [upd_ne (nd_ne h.nd (i := 8) (j := 6) rfl rfl (by decide)), e]; exact h.hlw
  hlm := by rw [upd_ne (nd_ne h.nd (i := 9) (j := 6) rfl rfl (by decide)), e]; exact h.hlm
theorem BT.set_lg (h : BT K H0 H b dx li dv ds dr S t dt yb ll lg lw lm T) (e : T' = { T with got := T'.got }) : BT K H0 (upd H lg (.lst (T'.got.map V.int))) b dx li dv ds dr S t dt yb ll lg lw lm T' where
  same := same_upd h.same (h.new lg (by simp))
  nd := h.nd
  new := h.new
  hb := by rw [upd_ne (nd_ne h.nd (i := 0) (j := 7) rfl rfl (by decide))]; exact h.hb
  hli := by rw [upd_ne (nd_ne h.nd (i := 1) (j := 7) rfl rfl (by decide))]; exact h.hli
  hdv := by rw [upd_ne (nd_ne h.nd (i := 2) (j := 7) rfl rfl (by decide))]; exact h.hdv
  hds := by rw [upd_ne (nd_ne h.nd (i := 3) (j := 7) rfl rfl (by decide))]; exact h.hds
  hdr := by rw [upd_ne (nd_ne h.nd (i := 4) (j := 7) rfl rfl (by decide))]; exact h.hdr
  ht := by rw [upd_ne (nd_ne h.nd (i := 5) (j := 7) rfl rfl (by decide)), e]; exact h.ht
  hll := by rw [upd_ne (nd_ne h.nd (i := 6) (j := 7) rfl rfl (by decide)), e]; exact h.hll
  hlg := upd_same
  hlw := by rw [upd_ne (nd_ne h.nd (i := 8) (j := 7) rfl rfl (by decide)), e]; exact h.hlw
  hlm := by rw [upd_ne (nd_ne h.nd (i := 9) (j := 7) rfl rfl (by decide)), e]; exact h.hlm
theorem BT.set_lw (h : BT K H0 H b dx li dv ds dr S t dt yb ll lg lw lm T) (e : T' = { T with wrongs := T'.wrongs }) : BT K H0 (upd H lw (.lst (T'.wrongs.map V.str))) b dx li dv ds dr S t dt yb ll lg lw lm T' where
  same := same_upd h.same (h.new lw (by simp))
  nd := h.nd
  new := h.new
  hb := by rw [upd_ne (nd_ne h.nd (i := 0) (j := 8) rfl rfl (by decide))]; exact h.hb
  hli := by rw [upd_ne (nd_ne h.nd (i := 1) (j := 8) rfl rfl (by decide))]; exact h.hli
  hdv := by rw [upd_ne (nd_ne h.nd (i := 2) (j := 8) rfl rfl (by decide))]; exact h.hdv
  hds := by rw [upd_ne (nd_ne h.nd (i := 3) (j := 8) rfl rfl (by decide))]; exact h.hds
  hdr := by rw [upd_ne (nd_ne h.nd (i := 4) (j := 8) rfl rfl (by decide))]; exact h.hdr
  ht := by rw [upd_ne (nd_ne h.nd (i := 5) (j := 8) rfl rfl (by decide)), e]; exact h.ht
  hll := by rw [upd_ne (nd_ne h.nd (i := 6) (j := 8) rfl rfl (by decide)), e]; exact h.hll
  hlg := by rw [upd_ne (nd_ne h.nd (i := 7) (j := 8) rfl rfl (by decide)), e]; exact h.hlg
  hlw := upd_same
  hlm := by rw [upd_ne (nd_ne h.nd (i := 9) (j := 8) rfl rfl (by decide)), e]; exact h.hlm
theorem BT.set_lm (h : BT K H0 H b dx li dv ds dr S t dt yb ll lg lw lm T) (e : T' = { T with moments := T'.moments }) : BT K H0 (upd H lm (.lst (T'.moments.map V.str))) b dx li dv ds dr S t dt yb ll lg lw lm T' where
  same := same_upd h.same (h.new lm (by simp))
  nd := h.nd
  new := h.new
  hb := by rw [upd_ne (nd_ne h.nd (i := 0) (j := 9) rfl rfl (by decide))]; exact h.hb
  hli := by rw [upd_ne (nd_ne h.nd (i := 1) (j := 9) rfl rfl (by decide))]; exact h.hli
  hdv := by rw [upd_ne (nd_ne h.nd (i := 2) (j := 9) rfl rfl (by decide))]; exact h.hdv
  hds := by rw [upd_ne (nd_ne h.nd (i := 3) (j := 9) rfl rfl (by decide))]; exact h.hds
  hdr := by rw [upd_ne (nd_ne h.nd (i := 4) (j := 9) rfl rfl (by decide))]; exact h.hdr
  ht := by rw [upd_ne (nd_ne h.nd (i := 5) (j := 9) rfl rfl (by decide)), e]; exact h.ht
  hll := by rw [upd_ne (nd_ne h.nd (i := 6) (j := 9) rfl rfl (by decide)), e]; exact h.hll
  hlg := by rw [upd_ne (nd_ne h.nd (i := 7) (j := 9) rfl rfl (by decide)), e]; exact h.hlg
  hlw := by rw [upd_ne (nd_ne h.nd (i := 8) (j := 9) rfl rfl (by decide)), e]; exact h.hlw
  hlm := upd_same
theorem BT.new_dv (h : BT K H0 H b dx li dv ds dr S t dt yb ll lg lw lm T) {p : Addr} (hp : H p = none) : BT K H0 (upd (upd H p (.dK [])) b (.ins (He.ga K "Box") dx (bxf { S with valid := [] } li p ds dr))) b dx li p ds dr { S with valid := [] } t dt yb ll lg lw lm T := by
  have hn : p ∉ [b, li, dv, ds, dr, t, ll, lg, lw, lm] := by
    intro z
    simp only [List.mem_cons, List.not_mem_nil, or_false] at z
    rcases z with rfl | rfl | rfl | rfl | rfl | rfl | rfl | rfl | rfl | rfl
    · exact absurd (h.hb.symm.trans hp) (by intro q; cases q)
    · exact absurd (h.hli.symm.trans hp) (by intro q; cases q)
    · exact absurd (h.hdv.symm.trans hp) (by intro q; cases q)
    · exact absurd (h.hds.symm.trans hp) (by intro q; cases q)
    · exact absurd (h.hdr.symm.trans hp) (by intro q; cases q)
    · exact absurd (h.ht.symm.trans hp) (by intro q; cases q)
    · exact absurd (h.hll.symm.trans hp) (by intro q; cases q)
    · exact absurd (h.hlg.symm.trans hp) (by intro q; cases q)
    · exact absurd (h.hlw.symm.trans hp) (by intro q; cases q)
    · exact absurd (h.hlm.symm.trans hp) (by intro q; cases q)
  have nd2 : [b, li, p, ds, dr, t, ll, lg, lw, lm].Nodup := nd_put (i := 2) h.nd hn
  have hpb : p ≠ b := fun z => hn (by rw [z]; simp)
  exact {
    same := same_upd (same_upd h.same (h.same.free hp)) (h.new b (by simp))
    nd := nd2
    new := fun a ha => by
      simp only [List.mem_cons, List.not_mem_nil, or_false] at ha
      rcases ha with rfl | rfl | rfl | rfl | rfl | rfl | rfl | rfl | rfl | rfl
      · exact h.new _ (by simp)
      · exact h.new _ (by simp)
      · exact h.same.free hp
      · exact h.new _ (by simp)
      · exact h.new _ (by simp)
      · exact h.new _ (by simp)
      · exact h.new _ (by simp)
      · exact h.new _ (by simp)
      · exact h.new _ (by simp)
      · exact h.new _ (by simp)
    hb := upd_same
    hli := by rw [upd_ne (nd_ne h.nd (i := 1) (j := 0) rfl rfl (by decide)), upd_ne (fun z => hn (by rw [← z]; simp))]; exact h.hli
    hdv := by rw [upd_ne hpb]; exact upd_same
    hds := by rw [upd_ne (nd_ne h.nd (i := 3) (j := 0) rfl rfl (by decide)), upd_ne (fun z => hn (by rw [← z]; simp))]; exact h.hds
    hdr := by rw [upd_ne (nd_ne h.nd (i := 4) (j := 0) rfl rfl (by decide)), upd_ne (fun z => hn (by rw [← z]; simp))]; exact h.hdr
    ht := by rw [upd_ne (nd_ne h.nd (i := 5) (j := 0) rfl rfl (by decide)), upd_ne (fun z => hn (by rw [← z]; simp))]; exact h.ht
    hll := by rw [upd_ne (nd_ne h.nd (i := 6) (j := 0) rfl rfl (by decide)), upd_ne (fun z => hn (by rw [← z]; simp))]; exact h.hll
    hlg := by rw [upd_ne (nd_ne h.nd (i := 7) (j := 0) rfl rfl (by decide)), upd_ne (fun z => hn (by rw [← z]; simp))]; exact h.hlg
    hlw := by rw [upd_ne (nd_ne h.nd (i := 8) (j := 0) rfl rfl (by decide)), upd_ne (fun z => hn (by rw [← z]; simp))]; exact h.hlw
    hlm := by rw [upd_ne (nd_ne h.nd (i := 9) (j := 0) rfl rfl (by decide)), upd_ne (fun z => hn (by rw [← z]; simp))]; exact h.hlm
  }
theorem BT.hand (h : BT K H0 H b dx li dv ds dr S t dt yb ll lg lw lm T) {p : Addr} (hp : H p = none) : BT K H0 (upd (upd (upd H t (.ins (He.ga K "Told") dt (tdf T yb ll li lw lm))) p (.lst [])) b (.ins (He.ga K "Box") dx (bxf S p dv ds dr))) b dx p dv ds dr { S with inside := [] } t dt yb ll li lw lm { T with got := S.inside } := by
  have hn : p ∉ [b, li, dv, ds, dr, t, ll, lg, lw, lm] := by
    intro z
    simp only [List.mem_cons, List.not_mem_nil, or_false] at z
    rcases z with rfl | rfl | rfl | rfl | rfl | rfl | rfl | rfl | rfl | rfl
    · exact absurd (h.hb.symm.trans hp) (by intro q; cases q)
    · exact absurd (h.hli.symm.trans hp) (by intro q; cases q)
    · exact absurd (h.hdv.symm.trans hp) (by intro q; cases q)
    · exact absurd (h.hds.symm.trans hp) (by intro q; cases q)
    · exact absurd (h.hdr.symm.trans hp) (by intro q; cases q)
    · exact absurd (h.ht.symm.trans hp) (by intro q; cases q)
    · exact absurd (h.hll.symm.trans hp) (by intro q; cases q)
    · exact absurd (h.hlg.symm.trans hp) (by intro q; cases q)
    · exact absurd (h.hlw.symm.trans hp) (by intro q; cases q)
    · exact absurd (h.hlm.symm.trans hp) (by intro q; cases q)
  have nd1 : [b, p, dv, ds, dr, t, ll, lg, lw, lm].Nodup := nd_put (i := 1) h.nd hn
  have nd2 : [b, p, dv, ds, dr, t, ll, li, lw, lm].Nodup := nd_put (i := 7) nd1 (fun z => by
    simp only [List.mem_cons, List.not_mem_nil, or_false] at z
    rcases z with z | z | z | z | z | z | z | z | z | z
    · exact (nd_ne h.nd (i := 1) (j := 0) rfl rfl (by decide)) z
    · exact hn (by rw [← z]; simp)
    · exact (nd_ne h.nd (i := 1) (j := 2) rfl rfl (by decide)) z
    · exact (nd_ne h.nd (i := 1) (j := 3) rfl rfl (by decide)) z
    · exact (nd_ne h.nd (i := 1) (j := 4) rfl rfl (by decide)) z
    · exact (nd_ne h.nd (i := 1) (j := 5) rfl rfl (by decide)) z
    · exact (nd_ne h.nd (i := 1) (j := 6) rfl rfl (by decide)) z
    · exact (nd_ne h.nd (i := 1) (j := 7) rfl rfl (by decide)) z
    · exact (nd_ne h.nd (i := 1) (j := 8) rfl rfl (by decide)) z
    · exact (nd_ne h.nd (i := 1) (j := 9) rfl rfl (by decide)) z)
  have hpb : p ≠ b := fun z => hn (by rw [z]; simp)
  exact {
    same := same_upd (same_upd (same_upd h.same (h.new t (by simp))) (h.same.free hp)) (h.new b (by simp))
    nd := nd2
    new := fun a ha => by
      simp only [List.mem_cons, List.not_mem_nil, or_false] at ha
      rcases ha with rfl | rfl | rfl | rfl | rfl | rfl | rfl | rfl | rfl | rfl
      · exact h.new _ (by simp)
      · exact h.same.free hp
      · exact h.new _ (by simp)
      · exact h.new _ (by simp)
      · exact h.new _ (by simp)
      · exact h.new _ (by simp)
      · exact h.new _ (by simp)
      · exact h.new _ (by simp)
      · exact h.new _ (by simp)
      · exact h.new _ (by simp)
    hb := upd_same
    hli := by rw [upd_ne hpb]; exact upd_same
    hdv := by rw [upd_ne (nd_ne h.nd (i := 2) (j := 0) rfl rfl (by decide)), upd_ne (fun z => hn (by rw [← z]; simp)), upd_ne (nd_ne h.nd (i := 2) (j := 5) rfl rfl (by decide))]; exact h.hdv
    hds := by rw [upd_ne (nd_ne h.nd (i := 3) (j := 0) rfl rfl (by decide)), upd_ne (fun z => hn (by rw [← z]; simp)), upd_ne (nd_ne h.nd (i := 3) (j := 5) rfl rfl (by decide))]; exact h.hds
    hdr := by rw [upd_ne (nd_ne h.nd (i := 4) (j := 0) rfl rfl (by decide)), upd_ne (fun z => hn (by rw [← z]; simp)), upd_ne (nd_ne h.nd (i := 4) (j := 5) rfl rfl (by decide))]; exact h.hdr
    hll := by rw [upd_ne (nd_ne h.nd (i := 6) (j := 0) rfl rfl (by decide)), upd_ne (fun z => hn (by rw [← z]; simp)), upd_ne (nd_ne h.nd (i := 6) (j := 5) rfl rfl (by decide))]; exact h.hll
    hlw := by rw [upd_ne (nd_ne h.nd (i := 8) (j := 0) rfl rfl (by decide)), upd_ne (fun z => hn (by rw [← z]; simp)), upd_ne (nd_ne h.nd (i := 8) (j := 5) rfl rfl (by decide))]; exact h.hlw
    hlm := by rw [upd_ne (nd_ne h.nd (i := 9) (j := 0) rfl rfl (by decide)), upd_ne (fun z => hn (by rw [← z]; simp)), upd_ne (nd_ne h.nd (i := 9) (j := 5) rfl rfl (by decide))]; exact h.hlm
    hlg := by rw [upd_ne (nd_ne h.nd (i := 1) (j := 0) rfl rfl (by decide)), upd_ne (fun z => hn (by rw [← z]; simp)), upd_ne (nd_ne h.nd (i := 1) (j := 5) rfl rfl (by decide))]; exact h.hli
    ht := by rw [upd_ne (nd_ne h.nd (i := 5) (j := 0) rfl rfl (by decide)), upd_ne (fun z => hn (by rw [← z]; simp))]; exact upd_same
  }
end
end K15

namespace K15
open PySem PySem.Spec PyProof.Rows L2 My
/-! ### what the box does, as a function -/
def ins (p : Int) (l : List Int) : List Int := if p ∈ l then l else l ++ [p]
theorem ins_len (p : Int) (l : List Int) : (ins p l).length ≤ l.length + 1 := by
  unfold ins
  split
  · omega
  · simp
theorem kvT_any (l : List Int) (p : Int) : ((kvT l).any fun kv => decide (kv.1 = (Sum.inl p : Key))) = decide (p ∈ l) := by
  induction l with
  | nil => rfl
  | cons a l ih =>
    show (decide ((Sum.inl a : Key) = Sum.inl p) || ((kvT l).any fun kv => decide (kv.1 = (Sum.inl p : Key)))) = _
    rw [ih, key_ll]
    by_cases e : a = p
    · subst e; simp
    · have e2 : ¬ p = a := fun z => e z.symm
      simp [e, e2]
theorem valV_kvT (l : List Int) (p : Int) : (valV (kvT l) (Sum.inl p)).isSome = decide (p ∈ l) := by
  rw [← valV_any, kvT_any]
theorem kvT_len (l : List Int) : (kvT l).length = l.length := by simp [kvT]
theorem putK_kvT (l : List Int) (p : Int) : putK (kvT l) (Sum.inl p) (.bl true) = kvT (ins p l) := by
  unfold putK
  rw [kvT_any]
  unfold ins
  by_cases e : p ∈ l
  · rw [decide_eq_true e, if_pos rfl, if_pos e]
    unfold kvT
    rw [List.map_map]
    refine List.map_congr_left fun a _ => ?_
    show (if (Sum.inl a : Key) = Sum.inl p then _ else _) = _
    split
    · rfl
    · rfl
  · rw [decide_eq_false e, if_neg Bool.false_ne_true, if_neg e]
    unfold kvT
    rw [List.map_append]
    rfl
def sendCode (x : BoxS × ToldS) : BoxS × ToldS :=
  if x.1.tf = "full" then
    match x.1.last with
    | some p => ({ x.1 with valid := ins p x.1.valid, sent := ins p x.1.sent }, { x.2 with letters := x.2.letters ++ [p] })
    | none => x
  else x
def act (x : BoxS × ToldS) (a : Str) : BoxS × ToldS :=
  if a = "code" then sendCode x
  else if a = "void" then ({ x.1 with valid := [] }, x.2)
  else if a = "look" then ({ x.1 with tf := if x.1.inside.isEmpty then "free" else "full" }, x.2)
  else if a = "lock" then ({ x.1 with ajar := false }, x.2)
  else ({ x.1 with tf := a }, x.2)
def carry (r : RuleL) (m : Str) (x : BoxS × ToldS) : BoxS × ToldS := r.foldl act (x.1, { x.2 with moments := x.2.moments ++ [m] })
structure Bd (n : Nat) (x : BoxS × ToldS) : Prop where
  i : x.1.inside.length ≤ n
  v : x.1.valid.length ≤ n
  s : x.1.sent.length ≤ n
  r : x.1.served.length ≤ n
  l : x.2.letters.length ≤ n
  w : x.2.wrongs.length ≤ n
  m : x.2.moments.length ≤ n
theorem Bd.mono {n m : Nat} {x : BoxS × ToldS} (h : Bd n x) (e : n ≤ m) : Bd m x := ⟨Nat.le_trans h.i e, Nat.le_trans h.v e, Nat.le_trans h.s e, Nat.le_trans h.r e, Nat.le_trans h.l e, Nat.le_trans h.w e, Nat.le_trans h.m e⟩
theorem Bd.send {n : Nat} {x : BoxS × ToldS} (h : Bd n x) : Bd (n + 1) (sendCode x) := by
  unfold sendCode
  split
  · split
    · rename_i p _
      have h1 := ins_len p x.1.valid
      have h2 := ins_len p x.1.sent
      refine ⟨Nat.le_succ_of_le h.i, ?_, ?_, Nat.le_succ_of_le h.r, ?_, Nat.le_succ_of_le h.w, Nat.le_succ_of_le h.m⟩
      · have := h.v; show (ins p x.1.valid).length ≤ n + 1; omega
      · have := h.s; show (ins p x.1.sent).length ≤ n + 1; omega
      · have := h.l; show (x.2.letters ++ [p]).length ≤ n + 1; rw [List.length_append]; show x.2.letters.length + 1 ≤ n + 1; omega
    · exact h.mono (Nat.le_succ n)
  · exact h.mono (Nat.le_succ n)
theorem Bd.act {n : Nat} {x : BoxS × ToldS} (h : Bd n x) (a : Str) : Bd (n + 1) (act x a) := by
  unfold K15.act
  have h1 := h.mono (Nat.le_succ n)
  split
  · exact h.send
  · split
    · exact ⟨h1.i, Nat.zero_le _, h1.s, h1.r, h1.l, h1.w, h1.m⟩
    · split
      · exact ⟨h1.i, h1.v, h1.s, h1.r, h1.l, h1.w, h1.m⟩
      · split
        · exact ⟨h1.i, h1.v, h1.s, h1.r, h1.l, h1.w, h1.m⟩
        · exact ⟨h1.i, h1.v, h1.s, h1.r, h1.l, h1.w, h1.m⟩
theorem Bd.foldl (r : RuleL) : ∀ {n : Nat} {x : BoxS × ToldS}, Bd n x → Bd (n + r.length) (r.foldl K15.act x) := by
  induction r with
  | nil => intro n x h; exact h
  | cons a r ih =>
    intro n x h
    have := ih (h.act a)
    rw [List.length_cons, show n + (r.length + 1) = n + 1 + r.length by omega]
    exact this
theorem Bd.mom {n : Nat} {x : BoxS × ToldS} (h : Bd n x) (m : Str) : Bd (n + 1) (x.1, { x.2 with moments := x.2.moments ++ [m] }) := by
  have h1 := h.mono (Nat.le_succ n)
  refine ⟨h1.i, h1.v, h1.s, h1.r, h1.l, h1.w, ?_⟩
  have := h.m
  show (x.2.moments ++ [m]).length ≤ n + 1
  rw [List.length_append]
  show x.2.moments.length + 1 ≤ n + 1
  omega
theorem Bd.carry {n : Nat} {x : BoxS × ToldS} (h : Bd n x) (r : RuleL) (m : Str) : Bd (n + 1 + r.length) (carry r m x) := (h.mom m).foldl r
def BTx (K : PySem.W.Frag) (H0 H : Hp) (b t : Addr) (x : BoxS × ToldS) : Prop := ∃ dx li dv ds dr dt yb ll lg lw lm, BT K H0 H b dx li dv ds dr x.1 t dt yb ll lg lw lm x.2
theorem lt_line {n : Nat} (h : n ≤ 1000000) : n < sizeLine := Nat.lt_of_le_of_lt h (by decide)
section
variable {P : Program} {w : World} {K : PySem.W.Frag} {mg : Str → Option Value} {base : Heap}
def sp_Box_send_code (K : PySem.W.Frag) : Sp := fun vs H Q _ => ∃ (H0 : Hp) (b t : Addr) (x : BoxS × ToldS) (n : Nat), vs = [.ref b, .ref t] ∧ BTx K H0 H b t x ∧ Bd n x ∧ n < 1000000 ∧ ∀ H', BTx K H0 H' b t (sendCode x) → Q .non H'
set_option maxHeartbeats 2000000 in
theorem ok_Box_send_code (T : Txt w K mg) {fd : FuncData} (F : FunD K d_Box_send_code.name d_Box_send_code.qual d_Box_send_code.params d_Box_send_code.body d_Box_send_code.scope (d_Box_send_code.dvs K) (d_Box_send_code.kws K) (He.fAd K d_Box_send_code.at_) fd) : FnOk P w K mg base C8.CX0 1 (He.fAd K d_Box_send_code.at_) fd ["self", "told"] (sp_Box_send_code K) := by
  refine F.ok sc_Box_send_code (fun vs H Q E h => ?_) (fun cdv A outer s H vs Q E hr h => ?_)
  · obtain ⟨H0, b, t, x, n, rfl, _⟩ := h
    rfl
  · have hu := L2.hu_of hr
    obtain ⟨H0, b, t, ⟨S, U⟩, n, rfl, ⟨dx, li, dv, ds, dr, dt, yb, ll, lg, lw, lm, h⟩, bd, hn, q⟩ := h
    refine ⟨_, (PSs.nox ((pss_one (ps_if (PW.pt (pw_and (pt_cmpR op_eq (My.pe_fldK (K := K) rfl (pv 0) rfl) pe_str (nomark _)) (pw_and1 (pt_cmpR op_notN (My.pe_fldK (K := K) rfl (pv 0) rfl) pe_non (nomark _)))))
  (pss_cons (ps_dput hu (My.pe_fldK (K := K) rfl (pv 0) rfl) (My.pe_fldK (K := K) rfl (pv 0) rfl) pe_bl rfl)
  (pss_cons (ps_dput hu (My.pe_fldK (K := K) rfl (pv 0) rfl) (My.pe_fldK (K := K) rfl (pv 0) rfl) pe_bl rfl)
  (pss_one (ps_expr (My.pe_bmK (K := K) rfl PySem.F.plainAttrs_list PySem.F.slot_list_append PySem.F.type_list_append mt_append (My.pe_fldK (K := K) rfl (pv 1) rfl) (pa_cons (My.pe_fldK (K := K) rfl (pv 0) rfl) pa_nil))))))
  pss_nil)))), ?_⟩
    refine ⟨_, rfl, b, _, dx, _, _, rfl, h.hb, T.cl_Box, T.no_Box_taken_for, rfl, rfl, _, rfl, ?_⟩
    by_cases c : S.tf = "full"
    · have e : decide (V.str S.tf = V.str "full") = true := decide_eq_true (congrArg V.str c)
      rw [e]
      refine ⟨_, rfl, b, _, dx, _, _, rfl, h.hb, T.cl_Box, T.no_Box_last, rfl, rfl, _, rfl, ?_⟩
      cases hl : S.last with
      | none =>
        have e0 : sendCode (S, U) = (S, U) := by
          unfold sendCode
          simp only [if_pos c, hl]
        rw [e0] at q
        exact q _ ⟨dx, li, dv, ds, dr, dt, yb, ll, lg, lw, lm, h⟩
      | some p =>
        have e0 : sendCode (S, U) = ({ S with valid := ins p S.valid, sent := ins p S.sent }, { U with letters := U.letters ++ [p] }) := by
          unfold sendCode
          simp only [if_pos c, hl]
        rw [e0] at q
        have hb := h.hb
        refine ⟨_, rfl, b, _, dx, _, _, rfl, hb, T.cl_Box, T.no_Box_valid, rfl, _, rfl, b, _, dx, _, oV S.last, rfl, hb, T.cl_Box, T.no_Box_last, rfl, dv, upd H dv (.dK (kvT (ins p S.valid))), rfl, ?_, ?_⟩
        · rw [hl, ← putK_kvT]
          exact DPut.k (k := Sum.inl p) h.hdv (by rw [kvT_len]; exact lt_line (by have := bd.v; show S.valid.length ≤ 1000000; have z : S.valid.length ≤ n := bd.v; omega))
        have h2 := h.set_dv (S' := { S with valid := ins p S.valid }) rfl
        have hb2 := h2.hb
        refine ⟨_, rfl, b, _, dx, _, _, rfl, hb2, T.cl_Box, T.no_Box_sent, rfl, _, rfl, b, _, dx, _, oV S.last, rfl, hb2, T.cl_Box, T.no_Box_last, rfl, ds, upd (upd H dv (.dK (kvT (ins p S.valid)))) ds (.dK (kvT (ins p S.sent))), rfl, ?_, ?_⟩
        · rw [hl, ← putK_kvT S.sent p]
          exact DPut.k (k := Sum.inl p) h2.hds (by rw [kvT_len]; exact lt_line (by show S.sent.length ≤ 1000000; have z : S.sent.length ≤ n := bd.s; omega))
        have h3 := h2.set_ds (S' := { S with valid := ins p S.valid, sent := ins p S.sent }) rfl
        refine ⟨_, rfl, t, _, dt, _, _, rfl, h3.ht, T.cl_Told, T.no_Told_letters, rfl, .inl ⟨rfl, _, SqL.of h3.hll⟩, _, rfl, b, _, dx, _, oV S.last, rfl, h3.hb, T.cl_Box, T.no_Box_last, rfl, ll, _, _, rfl, rfl, h3.hll, ?_, ?_⟩
        · rw [List.length_map]
          exact lt_line (by show U.letters.length ≤ 1000000; have z : U.letters.length ≤ n := bd.l; omega)
        · have h4 := h3.set_ll (T' := { U with letters := U.letters ++ [p] }) rfl
          have e4 : U.letters.map V.int ++ [oV S.last] = (U.letters ++ [p]).map V.int := by rw [hl, List.map_append]; rfl
          rw [e4]
          exact q _ ⟨dx, li, dv, ds, dr, dt, yb, ll, lg, lw, lm, h4⟩
    · have e : decide (V.str S.tf = V.str "full") = false := decide_eq_false (fun z => c (V.str.inj z))
      rw [e]
      have e0 : sendCode (S, U) = (S, U) := by
        unfold sendCode
        simp only [if_neg c]
      rw [e0] at q
      exact q _ ⟨dx, li, dv, ds, dr, dt, yb, ll, lg, lw, lm, h⟩
theorem c_Box_send_code (T : Txt w K mg) : C8.Met P w K mg base 1 (He.ga K "Box") "_send_code" (sp_Box_send_code K) [] := by
  obtain ⟨fd, F⟩ := T.f_Box_send_code
  exact ⟨_, fd, _, _, T.cl_Box, T.m_Box_send_code, ok_Box_send_code T F, F.bindsN (fun _ _ _ _ _ _ us hl => match us, hl with | [_, _], _ => rfl), .nil⟩
def sp_Box_act (K : PySem.W.Frag) : Sp := fun vs H Q _ => ∃ (H0 : Hp) (b t : Addr) (a : Str) (x : BoxS × ToldS) (n : Nat), vs = [.ref b, .str a, .ref t] ∧ BTx K H0 H b t x ∧ Bd n x ∧ n < 1000000 ∧ ∀ H', BTx K H0 H' b t (act x a) → Q .non H'
theorem str_eqF {a b : Str} (h : ¬ a = b) : decide (V.str a = V.str b) = false := decide_eq_false fun z => h (V.str.inj z)
theorem str_eqT {a b : Str} (h : a = b) : decide (V.str a = V.str b) = true := decide_eq_true (congrArg V.str h)
set_option maxHeartbeats 2000000 in
theorem ok_Box_act (T : Txt w K mg) {fd : FuncData} (F : FunD K d_Box_act.name d_Box_act.qual d_Box_act.params d_Box_act.body d_Box_act.scope (d_Box_act.dvs K) (d_Box_act.kws K) (He.fAd K d_Box_act.at_) fd) : FnOk P w K mg base C8.CX0 2 (He.fAd K d_Box_act.at_) fd ["self", "action", "told"] (sp_Box_act K) := by
  have c_Box_send_code := c_Box_send_code (P := P) (w := w) (base := base) T
  refine F.ok sc_Box_act (fun vs H Q E h => ?_) (fun cdv A outer s H vs Q E hr h => ?_)
  · obtain ⟨H0, b, t, a, x, n, rfl, _⟩ := h
    rfl
  · have hu := L2.hu_of hr
    obtain ⟨H0, b, t, a, ⟨S, U⟩, n, rfl, hx, bd, hn, q⟩ := h
    refine ⟨_, (PSs.nox ((pss_one (ps_if (pt_cmpR op_eq (pv 1) pe_str (nomark _))
  (pss_one (ps_expr (C8.pe_mt c_Box_send_code hr (by decide) (pv 0) (pa_cons (pv 2) pa_nil))))
  (pss_one (ps_if (pt_cmpR op_eq (pv 1) pe_str (nomark _))
  (pss_one (ps_fld (pv 0) pe_dnewK rfl))
  (pss_one (ps_if (pt_cmpR op_eq (pv 1) pe_str (nomark _))
  (pss_one (ps_fld (pv 0) (pe_ifExp (My.pt_truthK (K := K) rfl (My.pe_fldK (K := K) rfl (pv 0) rfl) (by intro _; rfl)) pe_str pe_str) rfl))
  (pss_one (ps_if (pt_cmpR op_eq (pv 1) pe_str (nomark _))
  (pss_one (ps_fld (pv 0) pe_bl rfl))
  (pss_one (ps_fld (pv 0) (pv 1) rfl)))))))))))), ?_⟩
    refine ⟨_, rfl, rfl, _, rfl, ?_⟩
    by_cases c1 : a = "code"
    · rw [str_eqT c1]
      have e0 : act (S, U) a = sendCode (S, U) := by unfold act; rw [if_pos c1]
      rw [e0] at q
      obtain ⟨dx, li, dv, ds, dr, dt, yb, ll, lg, lw, lm, h⟩ := id hx
      exact ⟨_, rfl, b, dx, _, rfl, h.hb, rfl, _, rfl, H0, b, t, (S, U), n, rfl, hx, bd, hn, q⟩
    rw [str_eqF c1]
    obtain ⟨dx, li, dv, ds, dr, dt, yb, ll, lg, lw, lm, h⟩ := id hx
    refine ⟨_, rfl, rfl, _, rfl, ?_⟩
    by_cases c2 : a = "void"
    · rw [str_eqT c2]
      have e0 : act (S, U) a = ({ S with valid := [] }, U) := by unfold act; rw [if_neg c1, if_pos c2]
      rw [e0] at q
      refine fun p hp => ?_
      have npb : b ≠ p := ne_of_none h.hb hp
      refine ⟨_, rfl, b, _, dx, _, rfl, (by rw [upd_ne npb]; exact h.hb), T.cl_Box, T.no_Box_valid, (by show 8 < 1000; decide), ?_⟩
      exact q _ ⟨dx, li, p, ds, dr, dt, yb, ll, lg, lw, lm, h.new_dv hp⟩
    rw [str_eqF c2]
    refine ⟨_, rfl, rfl, _, rfl, ?_⟩
    by_cases c3 : a = "look"
    · rw [str_eqT c3]
      have e0 : act (S, U) a = ({ S with tf := if S.inside.isEmpty then "free" else "full" }, U) := by unfold act; rw [if_neg c1, if_neg c2, if_pos c3]
      rw [e0] at q
      refine ⟨_, rfl, b, _, dx, _, _, rfl, h.hb, T.cl_Box, T.no_Box_inside, rfl, !(S.inside.map V.int).isEmpty, .inl ⟨_, SqL.of h.hli, rfl⟩, ?_⟩
      have h1 := h.set_b (S' := { S with tf := if S.inside.isEmpty then "free" else "full" }) rfl rfl rfl rfl
      rw [List.isEmpty_map]
      cases c : S.inside.isEmpty with
      | true =>
        rw [c] at h1 q
        exact ⟨_, rfl, b, _, dx, _, rfl, h.hb, T.cl_Box, T.no_Box_taken_for, (by show 8 < 1000; decide), q _ ⟨dx, li, dv, ds, dr, dt, yb, ll, lg, lw, lm, h1⟩⟩
      | false =>
        rw [c] at h1 q
        exact ⟨_, rfl, b, _, dx, _, rfl, h.hb, T.cl_Box, T.no_Box_taken_for, (by show 8 < 1000; decide), q _ ⟨dx, li, dv, ds, dr, dt, yb, ll, lg, lw, lm, h1⟩⟩
    rw [str_eqF c3]
    refine ⟨_, rfl, rfl, _, rfl, ?_⟩
    by_cases c4 : a = "lock"
    · rw [str_eqT c4]
      have e0 : act (S, U) a = ({ S with ajar := false }, U) := by unfold act; rw [if_neg c1, if_neg c2, if_neg c3, if_pos c4]
      rw [e0] at q
      have h1 := h.set_b (S' := { S with ajar := false }) rfl rfl rfl rfl
      exact ⟨_, rfl, b, _, dx, _, rfl, h.hb, T.cl_Box, T.no_Box_ajar, (by show 8 < 1000; decide), q _ ⟨dx, li, dv, ds, dr, dt, yb, ll, lg, lw, lm, h1⟩⟩
    rw [str_eqF c4]
    have e0 : act (S, U) a = ({ S with tf := a }, U) := by unfold act; rw [if_neg c1, if_neg c2, if_neg c3, if_neg c4]
    rw [e0] at q
    have h1 := h.set_b (S' := { S with tf := a }) rfl rfl rfl rfl
    exact ⟨_, rfl, _, rfl, b, _, dx, _, rfl, h.hb, T.cl_Box, T.no_Box_taken_for, (by show 8 < 1000; decide), q _ ⟨dx, li, dv, ds, dr, dt, yb, ll, lg, lw, lm, h1⟩⟩
theorem c_Box_act (T : Txt w K mg) : C8.Met P w K mg base 2 (He.ga K "Box") "_act" (sp_Box_act K) [] := by
  obtain ⟨fd, F⟩ := T.f_Box_act
  exact ⟨_, fd, _, _, T.cl_Box, T.m_Box_act, ok_Box_act T F, F.bindsN (fun _ _ _ _ _ _ us hl => match us, hl with | [_, _, _], _ => rfl), .nil⟩
def sp_Box_carry_out (K : PySem.W.Frag) : Sp := fun vs H Q _ => ∃ (H0 : Hp) (b t k : Addr) (m : Str) (i : Nat) (r : RuleL) (d : Int) (rs : List RuleL) (x : BoxS × ToldS) (n : Nat), vs = [.ref b, .ref k, .str m, .ref t] ∧ BTx K H0 H b t x ∧ BookAt K H0 k d rs ∧ moms[i]? = some m ∧ rs[i]? = some r ∧
  r.length ≤ 6 ∧ Bd n x ∧ n < 999900 ∧ ∀ H', BTx K H0 H' b t (carry r m x) → Q .non H'
theorem BTx.same {K : PySem.W.Frag} {H0 H : Hp} {b t : Addr} {x : BoxS × ToldS} (h : BTx K H0 H b t x) : Same H0 H := by
  obtain ⟨dx, li, dv, ds, dr, dt, yb, ll, lg, lw, lm, h⟩ := h
  exact h.same
set_option maxHeartbeats 2000000 in
theorem ok_Box_carry_out (T : Txt w K mg) {fd : FuncData} (F : FunD K d_Box_carry_out.name d_Box_carry_out.qual d_Box_carry_out.params d_Box_carry_out.body d_Box_carry_out.scope (d_Box_carry_out.dvs K) (d_Box_carry_out.kws K) (He.fAd K d_Box_carry_out.at_) fd) : FnOk P w K mg base C8.CX0 3 (He.fAd K d_Box_carry_out.at_) fd ["self", "book", "moment", "told"] (sp_Box_carry_out K) := by
  have c_Book_rule := c_Book_rule (P := P) (w := w) (base := base) T
  have c_Box_act := c_Box_act (P := P) (w := w) (base := base) T
  refine F.ok sc_Box_carry_out (fun vs H Q E h => ?_) (fun cdv A outer s H vs Q E hr h => ?_)
  · obtain ⟨H0, b, t, k, m, i, r, d, rs, x, n, rfl, _⟩ := h
    rfl
  · have hu := L2.hu_of hr
    obtain ⟨H0, b, t, k, m, i, r, d, rs, ⟨S, U⟩, n, rfl, hx, hk, hm, hr1, h6, bd, hn, q⟩ := h
    refine ⟨_, (PSs.nox ((pss_cons (ps_expr (My.pe_bmK (K := K) rfl PySem.F.plainAttrs_list PySem.F.slot_list_append PySem.F.type_list_append mt_append (My.pe_fldK (K := K) rfl (pv 3) rfl) (pa_cons (pv 2) pa_nil)))
  (pss_one (ps_for PassesOwn.never rfl (My.pi_tupK (K := K) rfl (C8.pe_mt c_Book_rule hr (by decide) (pv 1) (pa_cons (pv 2) pa_nil))) (pg_name (i := 4) sc_Box_carry_out.nd rfl (by first | exact Or.inl rfl | exact Or.inr rfl))
  (pss_one (ps_expr (C8.pe_mt c_Box_act hr (by decide) (pv 0) (pa_cons (pv 4) (pa_cons (pv 3) pa_nil)))))))))), ?_⟩
    obtain ⟨dx, li, dv, ds, dr, dt, yb, ll, lg, lw, lm, h⟩ := id hx
    refine ⟨_, rfl, t, _, dt, _, _, rfl, h.ht, T.cl_Told, T.no_Told_moments, rfl, .inl ⟨rfl, _, SqL.of h.hlm⟩, _, rfl, lm, _, _, rfl, rfl, h.hlm, ?_, ?_⟩
    · rw [List.length_map]
      exact lt_line (by show U.moments.length ≤ 1000000; have z : U.moments.length ≤ n := bd.m; omega)
    have h1 := h.set_lm (T' := { U with moments := U.moments ++ [m] }) rfl
    have e4 : U.moments.map V.str ++ [V.str m] = (U.moments ++ [m]).map V.str := by rw [List.map_append]; rfl
    rw [e4]
    have hx1 : BTx K H0 (upd H lm (.lst ((U.moments ++ [m]).map V.str))) b t (S, { U with moments := U.moments ++ [m] }) := ⟨dx, li, dv, ds, dr, dt, yb, ll, lg, lw, lm, h1⟩
    obtain ⟨dk, tk, ak, hkb, _⟩ := id (hk.same hx1.same)
    refine ⟨_, rfl, k, dk, _, rfl, hkb, rfl, _, rfl, H0, k, d, rs, m, i, r, rfl, hx1.same, hk, hm, hr1, fun a ha => ?_⟩
    have hbd : ∀ j, Bd (n + 1 + j) ((r.take j).foldl act (S, { U with moments := U.moments ++ [m] })) := fun j => (((bd.mom m).foldl (r.take j)).mono (by rw [List.length_take]; omega))
    refine ⟨a, rfl, ⟨_, same_tup hx1.same ha⟩, for_tup (K := K) (xs := r.map V.str) (fun j σ H' => ∃ u, σ = [some (.ref b), some (.ref k), some (.str m), some (.ref t), u] ∧ BTx K H0 H' b t ((r.take j).foldl act (S, { U with moments := U.moments ++ [m] }))) ⟨_, rfl, hx1⟩ (fun j σ H' _ ⟨_, _, z⟩ => same_tup z.same ha) ?_ ?_⟩
    · rintro j y σ H2 hj ⟨u, rfl, hx2⟩
      obtain ⟨z, hz, rfl⟩ := map_get hj
      have hlt : j < r.length := (List.getElem?_eq_some_iff.mp hz).1
      obtain ⟨dx2, li2, dv2, ds2, dr2, dt2, yb2, ll2, lg2, lw2, lm2, h2⟩ := id hx2
      refine ⟨_, rfl, b, dx2, _, rfl, h2.hb, rfl, _, rfl, _, rfl, H0, b, t, z, _, n + 1 + j, rfl, hx2, hbd j, by omega, fun H3 hx3 => ?_⟩
      refine ⟨_, rfl, ?_⟩
      rw [take_more hz, List.foldl_append]
      exact hx3
    · rintro σ H2 ⟨u, rfl, hx2⟩
      rw [List.length_map, List.take_length] at hx2
      exact q _ hx2
theorem c_Box_carry_out (T : Txt w K mg) : C8.Met P w K mg base 3 (He.ga K "Box") "_carry_out" (sp_Box_carry_out K) [] := by
  obtain ⟨fd, F⟩ := T.f_Box_carry_out
  exact ⟨_, fd, _, _, T.cl_Box, T.m_Box_carry_out, ok_Box_carry_out T F, F.bindsN (fun _ _ _ _ _ _ us hl => match us, hl with | [_, _, _, _], _ => rfl), .nil⟩
/-- the last step of a bring, a code -/
def goAway (sh : Bool) (m1 m2 : Str) (r1 r2 : RuleL) (x : BoxS × ToldS) : BoxS × ToldS :=
  if x.1.ajar = true then (if sh = true then carry r1 m1 ({ x.1 with ajar := false }, x.2) else carry r2 m2 x) else x
theorem Bd.go {n : Nat} {x : BoxS × ToldS} (h : Bd n x) {sh : Bool} {m1 m2 : Str} {r1 r2 : RuleL} (h1 : r1.length ≤ 6) (h2 : r2.length ≤ 6) : Bd (n + 7) (goAway sh m1 m2 r1 r2 x) := by
  unfold goAway
  split
  · split
    · exact (Bd.carry (x := ({ x.1 with ajar := false }, x.2)) ⟨h.i, h.v, h.s, h.r, h.l, h.w, h.m⟩ r1 m1).mono (by omega)
    · exact (h.carry r2 m2).mono (by omega)
  · exact h.mono (by omega)
def sp_Box_go_away (K : PySem.W.Frag) : Sp := fun vs H Q _ => ∃ (H0 : Hp) (b t k g : Addr) (sh : Bool) (m1 m2 : Str) (i1 i2 : Nat) (r1 r2 : RuleL) (d : Int) (rs : List RuleL) (x : BoxS × ToldS) (n : Nat), vs = [.ref b, .ref k, .bl sh, .ref g, .ref t] ∧ BTx K H0 H b t x ∧ BookAt K H0 k d rs ∧
  SqT K H g [.str m1, .str m2] ∧ moms[i1]? = some m1 ∧ rs[i1]? = some r1 ∧ r1.length ≤ 6 ∧ moms[i2]? = some m2 ∧ rs[i2]? = some r2 ∧ r2.length ≤ 6 ∧ Bd n x ∧ n < 999000 ∧ ∀ H', BTx K H0 H' b t (goAway sh m1 m2 r1 r2 x) → Q .non H'
set_option maxHeartbeats 2000000 in
theorem ok_Box_go_away (T : Txt w K mg) {fd : FuncData} (F : FunD K d_Box_go_away.name d_Box_go_away.qual d_Box_go_away.params d_Box_go_away.body d_Box_go_away.scope (d_Box_go_away.dvs K) (d_Box_go_away.kws K) (He.fAd K d_Box_go_away.at_) fd) : FnOk P w K mg base C8.CX0 4 (He.fAd K d_Box_go_away.at_) fd ["self", "book", "shuts", "moments", "told"] (sp_Box_go_away K) := by
  have c_Box_carry_out := c_Box_carry_out (P := P) (w := w) (base := base) T
  refine F.ok sc_Box_go_away (fun vs H Q E h => ?_) (fun cdv A outer s H vs Q E hr h => ?_)
  · obtain ⟨H0, b, t, k, g, sh, m1, m2, i1, i2, r1, r2, d, rs, x, n, rfl, _⟩ := h
    rfl
  · have hu := L2.hu_of hr
    obtain ⟨H0, b, t, k, g, sh, m1, m2, i1, i2, r1, r2, d, rs, ⟨S, U⟩, n, rfl, hx, hk, hg, hm1, hr1, hl1, hm2, hr2, hl2, bd, hn, q⟩ := h
    refine ⟨_, (PSs.nox ((pss_cons (ps_if (pt_not (pt_val (My.pe_fldK (K := K) rfl (pv 0) rfl)))
  (pss_one ps_retN)
  pss_nil)
  (pss_cons (ps_asg (pv 3) (My.pg_tupK (K := K) (n := 2) rfl rfl (pgs_cons (pg_name (i := 5) sc_Box_go_away.nd rfl (by first | exact Or.inl rfl | exact Or.inr rfl)) (pgs_cons (pg_name (i := 6) sc_Box_go_away.nd rfl (by first | exact Or.inl rfl | exact Or.inr rfl)) pgs_nil))))
  (pss_one (ps_if (pt_val (pv 2))
  (pss_cons (ps_fld (pv 0) pe_bl rfl)
  (pss_one (ps_expr (C8.pe_mt c_Box_carry_out hr (by decide) (pv 0) (pa_cons (pv 1) (pa_cons (pv 5) (pa_cons (pv 4) pa_nil)))))))
  (pss_one (ps_expr (C8.pe_mt c_Box_carry_out hr (by decide) (pv 0) (pa_cons (pv 1) (pa_cons (pv 6) (pa_cons (pv 4) pa_nil)))))))))))), ?_⟩
    obtain ⟨dx, li, dv, ds, dr, dt, yb, ll, lg, lw, lm, h⟩ := id hx
    refine ⟨_, rfl, b, _, dx, _, _, rfl, h.hb, T.cl_Box, T.no_Box_ajar, rfl, _, rfl, ?_⟩
    unfold goAway at q
    have e1 : S.ajar = (S, U).1.ajar := rfl
    cases c : S.ajar with
    | false =>
      rw [if_neg (by rw [← e1, c]; exact Bool.false_ne_true)] at q
      exact q _ hx
    | true =>
      rw [if_pos (by rw [← e1, c])] at q
      refine ⟨_, rfl, g, _, rfl, hg, rfl, _, _, rfl, _, _, rfl, rfl, ?_⟩
      refine ⟨_, rfl, _, rfl, ?_⟩
      cases sh with
      | true =>
        rw [if_pos rfl] at q
        refine ⟨_, rfl, b, _, dx, _, rfl, h.hb, T.cl_Box, T.no_Box_ajar, (by show 8 < 1000; decide), ?_⟩
        have h1 := h.set_b (S' := { S with ajar := false }) rfl rfl rfl rfl
        have hx1 : BTx K H0 _ b t ({ S with ajar := false }, U) := ⟨dx, li, dv, ds, dr, dt, yb, ll, lg, lw, lm, h1⟩
        exact ⟨_, rfl, b, dx, _, rfl, upd_same, rfl, _, rfl, _, rfl, _, rfl, H0, b, t, k, m1, i1, r1, d, rs, _, n, rfl, hx1, hk, hm1, hr1, hl1, ⟨bd.i, bd.v, bd.s, bd.r, bd.l, bd.w, bd.m⟩, by omega, q⟩
      | false =>
        rw [if_neg Bool.false_ne_true] at q
        exact ⟨_, rfl, b, dx, _, rfl, h.hb, rfl, _, rfl, _, rfl, _, rfl, H0, b, t, k, m2, i2, r2, d, rs, _, n, rfl, hx, hk, hm2, hr2, hl2, bd, by omega, q⟩
theorem c_Box_go_away (T : Txt w K mg) : C8.Met P w K mg base 4 (He.ga K "Box") "_go_away" (sp_Box_go_away K) [] := by
  obtain ⟨fd, F⟩ := T.f_Box_go_away
  exact ⟨_, fd, _, _, T.cl_Box, T.m_Box_go_away, ok_Box_go_away T F, F.bindsN (fun _ _ _ _ _ _ us hl => match us, hl with | [_, _, _, _, _], _ => rfl), .nil⟩
/-- somebody takes all that lies here -/
def letTake (own : Option Int) (x : BoxS × ToldS) : BoxS × ToldS :=
  ({ x.1 with inside := [], served := match own with
      | some p => if p ∈ x.1.inside then ins p x.1.served else x.1.served
      | none => x.1.served },
   { x.2 with got := x.1.inside, wrongs := if x.1.inside.any (fun p => decide (some p ≠ own)) = true then x.2.wrongs ++ [("wrong" : Str)] else x.2.wrongs })
theorem Bd.take {n : Nat} {x : BoxS × ToldS} (h : Bd n x) (own : Option Int) : Bd (n + 1) (letTake own x) := by
  have h1 := h.mono (Nat.le_succ n)
  refine ⟨Nat.zero_le _, h1.v, h1.s, ?_, h1.l, ?_, h1.m⟩
  · have := h.r
    unfold letTake
    cases own with
    | none => exact h1.r
    | some p =>
      show (if p ∈ x.1.inside then ins p x.1.served else x.1.served).length ≤ n + 1
      have := ins_len p x.1.served
      split <;> omega
  · have := h.w
    show (if x.1.inside.any (fun p => decide (some p ≠ own)) = true then x.2.wrongs ++ [("wrong" : Str)] else x.2.wrongs).length ≤ n + 1
    split
    · rw [List.length_append]
      show x.2.wrongs.length + 1 ≤ n + 1
      omega
    · omega
end
end K15

namespace K15
open PySem PySem.Spec PyProof.Rows L2 My
theorem inV_int (p : Int) (l : List Int) : inV (.int p) (l.map V.int) = decide (p ∈ l) := by
  induction l with
  | nil => rfl
  | cons a l ih =>
    show (eqV (.int a) (.int p) || inV (.int p) (l.map V.int)) = _
    rw [ih]
    show ((a == p) || decide (p ∈ l)) = _
    by_cases e : a = p
    · subst e; simp
    · have e2 : ¬ p = a := fun z => e z.symm
      simp [e, e2]
theorem inV_non (l : List Int) : inV .non (l.map V.int) = false := by
  induction l with
  | nil => rfl
  | cons a l ih =>
    show (eqV (.int a) .non || inV .non (l.map V.int)) = _
    rw [ih]
    rfl
theorem all_flat_int (l : List Int) : (l.map V.int).all flatV = true := by
  rw [List.all_map]
  exact List.all_eq_true.mpr fun _ _ => rfl
theorem BT.to {K : PySem.W.Frag} {H0 H H' : Hp} {b dx li dv ds dr : Addr} {S : BoxS} {t dt : Addr} {yb : Bool} {ll lg lw lm : Addr} {U : ToldS} (h : BT K H0 H b dx li dv ds dr S t dt yb ll lg lw lm U) (s : Same H H') : BT K H0 H' b dx li dv ds dr S t dt yb ll lg lw lm U :=
  ⟨h.same.trans s, h.nd, h.new, s _ _ h.hb, s _ _ h.hli, s _ _ h.hdv, s _ _ h.hds, s _ _ h.hdr, s _ _ h.ht, s _ _ h.hll, s _ _ h.hlg, s _ _ h.hlw, s _ _ h.hlm⟩
section
variable {P : Program} {w : World} {K : PySem.W.Frag} {mg : Str → Option Value} {base : Heap}
def sp_Box_let_take (K : PySem.W.Frag) : Sp := fun vs H Q _ => ∃ (H0 : Hp) (b t : Addr) (own : Option Int) (x : BoxS × ToldS) (n : Nat), vs = [.ref b, oV own, .ref t] ∧ BTx K H0 H b t x ∧ Bd n x ∧ n < 999000 ∧ ∀ H', BTx K H0 H' b t (letTake own x) → Q .non H'
set_option maxHeartbeats 2000000 in
theorem ok_Box_let_take (T : Txt w K mg) {fd : FuncData} (F : FunD K d_Box_let_take.name d_Box_let_take.qual d_Box_let_take.params d_Box_let_take.body d_Box_let_take.scope (d_Box_let_take.dvs K) (d_Box_let_take.kws K) (He.fAd K d_Box_let_take.at_) fd) : FnOk P w K mg base C8.CX0 1 (He.fAd K d_Box_let_take.at_) fd ["self", "own", "told"] (sp_Box_let_take K) := by
  refine F.ok sc_Box_let_take (fun vs H Q E h => ?_) (fun cdv A outer s H vs Q E hr h => ?_)
  · obtain ⟨H0, b, t, own, x, n, rfl, _⟩ := h
    rfl
  · have hu := L2.hu_of hr
    obtain ⟨H0, b, t, own, ⟨S, U⟩, n, rfl, ⟨dx, li, dv, ds, dr, dt, yb, ll, lg, lw, lm, h⟩, bd, hn, q⟩ := h
    refine ⟨_, (PSs.nox ((pss_cons (ps_fld (pv 2) (My.pe_fldK (K := K) rfl (pv 0) rfl) rfl)
  (pss_cons (ps_fld (pv 0) (pe_lst pa_nil) rfl)
  (pss_cons (ps_if (pt_cmpR (My.in_seqK (K := K) rfl) (pv 1) (My.pe_fldK (K := K) rfl (pv 2) rfl) (by rfl))
  (pss_one (ps_dput hu (My.pe_fldK (K := K) rfl (pv 0) rfl) (pv 1) pe_bl rfl))
  pss_nil)
  (pss_one (ps_if (pt_val (pe_callB (My.anyK (K := K) rfl rfl) (by rfl) T.any (by decide +kernel) (pa_cons (pe_lc (own := [("parcel", 3)]) (g := (gName 3)) (tt := tYes) (by rfl) sc_Box_let_take.nd (My.pi_listK (K := K) rfl (My.pe_fldK (K := K) rfl (pv 2) rfl)) (blkOk_by (N := N_Box_let_take) (sc := defScope s_Box_let_take) (by decide +kernel)) (fun _ _ _ _ _ => (pg_name (i := 3) sc_Box_let_take.nd rfl (by first | exact Or.inl rfl | exact Or.inr rfl))) (fun _ _ _ _ _ => pts_nil) (fun _ _ _ _ _ => (pe_cmpR op_ne (pv 3) (pv 1) (nomark _)))) pa_nil)))
  (pss_one (ps_expr (My.pe_bmK (K := K) rfl PySem.F.plainAttrs_list PySem.F.slot_list_append PySem.F.type_list_append mt_append (My.pe_fldK (K := K) rfl (pv 2) rfl) (pa_cons pe_str pa_nil))))
  pss_nil))))))), ?_⟩
    have nbt : b ≠ t := nd_ne h.nd (i := 0) (j := 5) rfl rfl (by decide)
    refine ⟨_, rfl, b, _, dx, _, _, rfl, h.hb, T.cl_Box, T.no_Box_inside, rfl, _, rfl, t, _, dt, _, rfl, h.ht, T.cl_Told, T.no_Told_got, (by show 6 < 1000; decide), ?_⟩
    refine ⟨Nat.zero_le _, fun p hp => ?_⟩
    have npt : p ≠ t := by
      intro z
      rw [z, upd_same] at hp
      cases hp
    rw [upd_ne npt] at hp
    have h1 := h.hand hp
    have npb : b ≠ p := ne_of_none h.hb hp
    refine ⟨_, rfl, b, _, dx, _, rfl, (by rw [upd_ne npb, upd_ne nbt]; exact h.hb), T.cl_Box, T.no_Box_inside, (by show 8 < 1000; decide), ?_⟩
    refine ⟨_, rfl, _, rfl, t, _, dt, _, _, rfl, h1.ht, T.cl_Told, T.no_Told_got, rfl, li, _, rfl, .inl (SqL.of h1.hlg), ?_, all_flat_int _, _, rfl, ?_⟩
    · cases own <;> rfl
    let W : List Str := if S.inside.any (fun p => decide (some p ≠ own)) = true then U.wrongs ++ [("wrong" : Str)] else U.wrongs
    -- what is left: any(..), wrongs.append
    have last : ∀ (H1 : Hp) (S1 : BoxS), BT K H0 H1 b dx p dv ds dr S1 t dt yb ll li lw lm { U with got := S.inside } →
        (∀ H', BTx K H0 H' b t (S1, { U with got := S.inside, wrongs := W }) → Q .non H') →
        tIfS (tB (tCB (rAny K) (tCons (tLc (iList K (tFld K (tVar 2) "got")) (gName 3) tYes (tOp rNe (tVar 3) (tVar 1)) [3]) tNil))) (tSeq (tDrop (tBM K "list" rAppend (tFld K (tVar 2) "wrongs") (tCons (tC (.str "wrong")) tNil))) tNext) tNext
          { nx := fun _ H' => Q .non H', rt := Q } [some (.ref b), some (oV own), some (.ref t), none] H1 := by
      intro H1 S1 h2 q2
      have sl := h2.hlg
      refine ⟨_, rfl, t, _, dt, _, _, rfl, h2.ht, T.cl_Told, T.no_Told_got, rfl, li, rfl, ⟨_, SqL.of sl⟩, fun D hD => lc_list (K := K) (a := li) (xs := S.inside.map V.int) (fun i H' => Same H1 H' ∧ H' D = some (.lst (((S.inside.take i).map (fun p => decide (some p ≠ own))).map V.bl))) ⟨same_new hD, upd_same⟩ (fun i H' _ z => SqL.of (z.1 _ _ sl)) ?_ ?_⟩
      · rintro i y H2 hi ⟨s2, hD2⟩
        obtain ⟨z, hz, rfl⟩ := map_get hi
        refine ⟨rfl, ?_⟩
        refine ⟨_, rfl, _, rfl, by cases own <;> rfl, _, hD2, ?_, same_upd s2 hD, ?_⟩
        · rw [List.length_map, List.length_map, List.length_take]
          have zz : S.inside.length ≤ n := bd.i
          exact lt_line (by omega)
        · rw [upd_same, take_more hz, List.map_append, List.map_append]
          have e : (!decide (V.int z = oV own)) = decide (some z ≠ own) := by
            cases own with
            | none => rfl
            | some k =>
              by_cases c : z = k
              · subst c
                simp [oV]
              · have c2 : ¬ V.int z = V.int k := fun e => c (V.int.inj e)
                simp [oV, c, c2]
          rw [e]
          rfl
      · rintro H2 ⟨s2, hD2⟩
        rw [List.length_map, List.take_length] at hD2
        refine ⟨D, _, rfl, SqL.of hD2, _, rfl, ?_⟩
        have h3 := h2.to s2
        have e : (S.inside.map (fun p => decide (some p ≠ own))).any id = S.inside.any (fun p => decide (some p ≠ own)) := by rw [List.any_map]; rfl
        rw [e]
        cases c : S.inside.any (fun p => decide (some p ≠ own)) with
        | false =>
          have eW : W = U.wrongs := if_neg (by rw [c]; exact Bool.false_ne_true)
          rw [eW] at q2
          exact q2 _ ⟨dx, p, dv, ds, dr, dt, yb, ll, li, lw, lm, h3⟩
        | true =>
          have eW : W = U.wrongs ++ [("wrong" : Str)] := if_pos c
          rw [eW] at q2
          refine ⟨_, rfl, t, _, dt, _, _, rfl, h3.ht, T.cl_Told, T.no_Told_wrongs, rfl, .inl ⟨rfl, _, SqL.of h3.hlw⟩, lw, _, _, rfl, rfl, h3.hlw, ?_, ?_⟩
          · have zz : U.wrongs.length ≤ n := bd.w
            rw [List.length_map]
            exact lt_line (by show U.wrongs.length ≤ 1000000; omega)
          · have h4 := h3.set_lw (T' := { U with got := S.inside, wrongs := U.wrongs ++ [("wrong" : Str)] }) rfl
            have e4 : U.wrongs.map V.str ++ [V.str "wrong"] = (U.wrongs ++ [("wrong" : Str)]).map V.str := by rw [List.map_append]; rfl
            show Q .non (upd H2 lw (.lst (U.wrongs.map V.str ++ [V.str "wrong"])))
            rw [e4]
            exact q2 _ ⟨dx, p, dv, ds, dr, dt, yb, ll, li, lw, lm, h4⟩
    cases own with
    | none =>
      show (if (if false = true then !inV V.non (S.inside.map V.int) else inV V.non (S.inside.map V.int)) = true then _ else _)
      rw [if_neg Bool.false_ne_true, inV_non]
      exact last _ _ h1 q
    | some o =>
      show (if (if false = true then !inV (.int o) (S.inside.map V.int) else inV (.int o) (S.inside.map V.int)) = true then _ else _)
      rw [if_neg Bool.false_ne_true, inV_int]
      have e0 : letTake (some o) (S, U) = ({ S with inside := [], served := if o ∈ S.inside then ins o S.served else S.served }, { U with got := S.inside, wrongs := W }) := rfl
      rw [e0] at q
      by_cases c : o ∈ S.inside
      · rw [decide_eq_true c, if_pos rfl]
        rw [if_pos c] at q
        refine ⟨_, rfl, b, _, dx, _, _, rfl, h1.hb, T.cl_Box, T.no_Box_served, rfl, _, rfl, dr, _, rfl, DPut.k (k := Sum.inl o) h1.hdr (by rw [kvT_len]; exact lt_line (by show S.served.length ≤ 1000000; have zz : S.served.length ≤ n := bd.r; omega)), ?_⟩
        rw [putK_kvT]
        exact last _ _ (h1.set_dr (S' := { S with inside := [], served := ins o S.served }) rfl) q
      · rw [decide_eq_false c, if_neg Bool.false_ne_true]
        rw [if_neg c] at q
        exact last _ _ h1 q
theorem c_Box_let_take (T : Txt w K mg) : C8.Met P w K mg base 1 (He.ga K "Box") "_let_take" (sp_Box_let_take K) [] := by
  obtain ⟨fd, F⟩ := T.f_Box_let_take
  exact ⟨_, fd, _, _, T.cl_Box, T.m_Box_let_take, ok_Box_let_take T F, F.bindsN (fun _ _ _ _ _ _ us hl => match us, hl with | [_, _, _], _ => rfl), .nil⟩
end
end K15

namespace K15
open PySem PySem.Spec PyProof.Rows L2 My
/-- a box alone, over a heap in which none of it stands -/
structure BxA (K : PySem.W.Frag) (H0 H : Hp) (b dx li dv ds dr : Addr) (S : BoxS) : Prop where
  same : Same H0 H
  nd : [b, li, dv, ds, dr].Nodup
  new : ∀ a ∈ [b, li, dv, ds, dr], H0 a = none
  hb : H b = some (.ins (He.ga K "Box") dx (bxf S li dv ds dr))
  hli : H li = some (.lst (S.inside.map V.int))
  hdv : H dv = some (.dK (kvT S.valid))
  hds : H ds = some (.dK (kvT S.sent))
  hdr : H dr = some (.dK (kvT S.served))
def Bx (K : PySem.W.Frag) (H0 H : Hp) (b : Addr) (S : BoxS) : Prop := ∃ dx li dv ds dr, BxA K H0 H b dx li dv ds dr S
def T0 : ToldS := ⟨[], false, [], [], []⟩
def S0 : BoxS := ⟨false, [], "free", [], none, none, [], []⟩
section
variable {P : Program} {w : World} {K : PySem.W.Frag} {mg : Str → Option Value} {base : Heap}
def sp_Told_init (K : PySem.W.Frag) : Sp := fun vs H Q _ => ∃ (t dt : Addr), vs = [.ref t] ∧ H t = some (.ins (He.ga K "Told") dt []) ∧
  ∀ H' ll lg lw lm, But [t] H H' → [ll, lg, lw, lm].Nodup → (∀ a ∈ [ll, lg, lw, lm], H a = none) → H' t = some (.ins (He.ga K "Told") dt (tdf T0 false ll lg lw lm)) → H' ll = some (.lst []) → H' lg = some (.lst []) → H' lw = some (.lst []) → H' lm = some (.lst []) → Q .non H'
theorem up_none {H : Hp} {a b : Addr} {o : HO} (h : upd H a o b = none) : b ≠ a ∧ H b = none := by
  have n : b ≠ a := by
    intro z
    rw [z, upd_same] at h
    cases h
  rw [upd_ne n] at h
  exact ⟨n, h⟩
set_option maxHeartbeats 2000000 in
theorem ok_Told_init (T : Txt w K mg) {fd : FuncData} (F : FunD K d_Told_init.name d_Told_init.qual d_Told_init.params d_Told_init.body d_Told_init.scope (d_Told_init.dvs K) (d_Told_init.kws K) (He.fAd K d_Told_init.at_) fd) : FnOk P w K mg base C8.CX0 1 (He.fAd K d_Told_init.at_) fd ["self"] (sp_Told_init K) := by
  refine F.ok sc_Told_init (fun vs H Q E h => ?_) (fun cdv A outer s H vs Q E hr h => ?_)
  · obtain ⟨t, dt, rfl, _⟩ := h
    rfl
  · have hu := L2.hu_of hr
    obtain ⟨t, dt, rfl, ht, q⟩ := h
    refine ⟨_, (PSs.nox ((pss_cons (ps_fld (pv 0) (pe_lst pa_nil) rfl)
  (pss_cons (ps_fld (pv 0) pe_bl rfl)
  (pss_cons (ps_fld (pv 0) (pe_lst pa_nil) rfl)
  (pss_cons (ps_fld (pv 0) pe_bl rfl)
  (pss_cons (ps_fld (pv 0) (pe_lst pa_nil) rfl)
  (pss_one (ps_fld (pv 0) (pe_lst pa_nil) rfl))))))))), ?_⟩
    refine ⟨Nat.zero_le _, fun p1 h1 => ?_⟩
    have n1 : t ≠ p1 := ne_of_none ht h1
    refine ⟨_, rfl, t, _, dt, _, rfl, (by rw [upd_ne n1]; exact ht), T.cl_Told, T.no_Told_letters, (by show 0 < 1000; decide), ?_⟩
    refine ⟨_, rfl, t, _, dt, _, rfl, upd_same, T.cl_Told, T.no_Told_opened, (by show 1 < 1000; decide), ?_⟩
    refine ⟨Nat.zero_le _, fun p2 h2 => ?_⟩
    obtain ⟨a2, h2⟩ := up_none h2
    obtain ⟨_, h2⟩ := up_none h2
    obtain ⟨b2, h2⟩ := up_none h2
    refine ⟨_, rfl, t, _, dt, _, rfl, (by rw [upd_ne a2.symm]; exact upd_same), T.cl_Told, T.no_Told_got, (by show 2 < 1000; decide), ?_⟩
    refine ⟨_, rfl, t, _, dt, _, rfl, upd_same, T.cl_Told, T.no_Told_lays, (by show 3 < 1000; decide), ?_⟩
    refine ⟨Nat.zero_le _, fun p3 h3 => ?_⟩
    obtain ⟨a3, h3⟩ := up_none h3
    obtain ⟨_, h3⟩ := up_none h3
    obtain ⟨c3, h3⟩ := up_none h3
    obtain ⟨_, h3⟩ := up_none h3
    obtain ⟨_, h3⟩ := up_none h3
    obtain ⟨b3, h3⟩ := up_none h3
    refine ⟨_, rfl, t, _, dt, _, rfl, (by rw [upd_ne a3.symm]; exact upd_same), T.cl_Told, T.no_Told_wrongs, (by show 4 < 1000; decide), ?_⟩
    refine ⟨Nat.zero_le _, fun p4 h4 => ?_⟩
    obtain ⟨a4, h4⟩ := up_none h4
    obtain ⟨d4, h4⟩ := up_none h4
    obtain ⟨_, h4⟩ := up_none h4
    obtain ⟨_, h4⟩ := up_none h4
    obtain ⟨c4, h4⟩ := up_none h4
    obtain ⟨_, h4⟩ := up_none h4
    obtain ⟨_, h4⟩ := up_none h4
    obtain ⟨b4, h4⟩ := up_none h4
    refine ⟨_, rfl, t, _, dt, _, rfl, (by rw [upd_ne a4.symm]; exact upd_same), T.cl_Told, T.no_Told_moments, (by show 5 < 1000; decide), ?_⟩
    have nt : t ∈ [t] := by simp
    refine q _ p1 p2 p3 p4 ?_ ?_ ?_ upd_same ?_ ?_ ?_ ?_
    · exact (((((((((((But.refl [t] H).put (.inl h1)).put (.inr nt)).put (.inr nt)).put (.inl h2)).put (.inr nt)).put (.inr nt)).put (.inl h3)).put (.inr nt)).put (.inl h4)).put (.inr nt))
    · simp only [List.nodup_cons, List.mem_cons, List.not_mem_nil, or_false, not_or, not_false_eq_true, List.nodup_nil, and_true]
      exact ⟨⟨b2.symm, b3.symm, b4.symm⟩, ⟨c3.symm, c4.symm⟩, d4.symm⟩
    · intro a ha
      simp only [List.mem_cons, List.not_mem_nil, or_false] at ha
      rcases ha with rfl | rfl | rfl | rfl <;> assumption
    · rw [upd_ne n1.symm, upd_ne b4.symm, upd_ne n1.symm, upd_ne b3.symm, upd_ne n1.symm, upd_ne n1.symm, upd_ne b2.symm, upd_ne n1.symm, upd_ne n1.symm, upd_same]
    · rw [upd_ne a2, upd_ne c4.symm, upd_ne a2, upd_ne c3.symm, upd_ne a2, upd_ne a2, upd_same]
    · rw [upd_ne a3, upd_ne d4.symm, upd_ne a3, upd_same]
    · rw [upd_ne a4, upd_same]
theorem c_Told_init (T : Txt w K mg) : C8.Mak P w K mg base 1 "Told" (He.ga K "Told") (sp_Told_init K) [] := by
  obtain ⟨fd, F⟩ := T.f_Told_init
  exact ⟨_, fd, _, _, T.mk_Told, ok_Told_init T F, T.g_Told, F.bindsN (fun _ _ _ _ _ _ us hl => match us, hl with | [_], _ => rfl), .nil⟩
/-- a new told beside the box -/
theorem mkBT {H0 H H' : Hp} {b dx li dv ds dr t dt ll lg lw lm : Addr} {S : BoxS} (h : BxA K H0 H b dx li dv ds dr S) (ht : H t = none) (hdt : H dt = none) (hne : dt ≠ t) (bt : But [t] (upd (upd H dt (.own t)) t (.ins (He.ga K "Told") dt [])) H') (nd : [ll, lg, lw, lm].Nodup)
    (new : ∀ a ∈ [ll, lg, lw, lm], (upd (upd H dt (.own t)) t (.ins (He.ga K "Told") dt [])) a = none) (h1 : H' t = some (.ins (He.ga K "Told") dt (tdf T0 false ll lg lw lm))) (h2 : H' ll = some (.lst [])) (h3 : H' lg = some (.lst [])) (h4 : H' lw = some (.lst [])) (h5 : H' lm = some (.lst [])) :
    BT K H0 H' b dx li dv ds dr S t dt false ll lg lw lm T0 := by
  have s1 : Same H H' := fun c o e => bt c o (by simpa using ne_of_none e ht) (by rw [upd_ne (ne_of_none e ht), upd_ne (ne_of_none e hdt)]; exact e)
  have new2 : ∀ a ∈ [ll, lg, lw, lm], a ≠ t ∧ H a = none := fun a ha => by
    obtain ⟨x1, x2⟩ := up_none (new a ha)
    obtain ⟨_, x3⟩ := up_none x2
    exact ⟨x1, x3⟩
  have old : ∀ a ∈ [b, li, dv, ds, dr], ∃ o, H a = some o := fun a ha => by
    simp only [List.mem_cons, List.not_mem_nil, or_false] at ha
    rcases ha with rfl | rfl | rfl | rfl | rfl
    · exact ⟨_, h.hb⟩
    · exact ⟨_, h.hli⟩
    · exact ⟨_, h.hdv⟩
    · exact ⟨_, h.hds⟩
    · exact ⟨_, h.hdr⟩
  refine ⟨h.same.trans s1, ?_, ?_, s1 _ _ h.hb, s1 _ _ h.hli, s1 _ _ h.hdv, s1 _ _ h.hds, s1 _ _ h.hdr, h1, h2, h3, h4, h5⟩
  · show ([b, li, dv, ds, dr] ++ (t :: [ll, lg, lw, lm])).Nodup
    refine List.nodup_append.mpr ⟨h.nd, List.nodup_cons.mpr ⟨fun z => (new2 t z).1 rfl, nd⟩, fun x hx y hy e => ?_⟩
    subst e
    obtain ⟨o, ho⟩ := old x hx
    rcases List.mem_cons.mp hy with z | z
    · rw [z, ht] at ho
      cases ho
    · rw [(new2 x z).2] at ho
      cases ho
  · intro a ha
    have ha2 : a ∈ [b, li, dv, ds, dr] ++ (t :: [ll, lg, lw, lm]) := ha
    rcases List.mem_append.mp ha2 with z | z
    · exact h.new a z
    · rcases List.mem_cons.mp z with z | z
      · rw [z]
        exact h.same.free ht
      · exact h.same.free (new2 a z).2
theorem tupN {H0 H : Hp} {b t p : Addr} {x : BoxS × ToldS} {o : HO} (h : BTx K H0 H b t x) (hp : H p = none) : BTx K H0 (upd H p o) b t x := by
  obtain ⟨dx, li, dv, ds, dr, dt, yb, ll, lg, lw, lm, h⟩ := h
  exact ⟨dx, li, dv, ds, dr, dt, yb, ll, lg, lw, lm, h.to (same_new hp)⟩
end
end K15

namespace K15
open PySem PySem.Spec PyProof.Rows L2 My
def at_ (rs : List RuleL) (i : Nat) : RuleL := (rs[i]?).getD []
structure GoodB (rs : List RuleL) : Prop where
  len : rs.length = 8
  good : ∀ r ∈ rs, GoodRule r
theorem GoodB.get {rs : List RuleL} (h : GoodB rs) {i : Nat} (hi : i < 8) : rs[i]? = some (at_ rs i) := by
  have hl : i < rs.length := by rw [h.len]; exact hi
  unfold at_
  rw [List.getElem?_eq_getElem hl]
  rfl
theorem GoodB.six {rs : List RuleL} (h : GoodB rs) {i : Nat} (hi : i < 8) : (at_ rs i).length ≤ 6 := (h.good _ (List.mem_of_getElem? (h.get hi))).1
def passBy (S : BoxS) : BoxS × ToldS := if S.ajar = true then letTake none (S, T0) else (S, T0)
def dayF (d : Int) (rs : List RuleL) (S : BoxS) : BoxS × ToldS :=
  match S.age with
  | none => (S, T0)
  | some a => if a + 1 = d then carry (at_ rs 6) "late" ({ S with age := some (a + 1) }, T0) else ({ S with age := some (a + 1) }, T0)
def powerF (rs : List RuleL) (S : BoxS) : BoxS × ToldS := carry (at_ rs 7) "power" (S, T0)
def layIn (p : Int) (l : Bool) (x : BoxS × ToldS) : BoxS × ToldS :=
  if l = true ∧ x.1.ajar = true then ({ x.1 with inside := x.1.inside ++ [p] }, { x.2 with wrongs := if x.1.inside.isEmpty = true then x.2.wrongs else x.2.wrongs ++ [("two" : Str)] }) else x
def bringF (rs : List RuleL) (p : Int) (l s : Bool) (S : BoxS) : BoxS × ToldS :=
  if S.tf = "free" then goAway s "laid" "left" (at_ rs 1) (at_ rs 2) (layIn p l (carry (at_ rs 0) "given" ({ S with ajar := true, age := some 0, last := some p }, { T0 with opened := true }))) else (S, T0)
section
variable {P : Program} {w : World} {K : PySem.W.Frag} {mg : Str → Option Value} {base : Heap}
def sp_Box_pass_by (K : PySem.W.Frag) : Sp := fun vs H Q _ => ∃ (H0 : Hp) (b : Addr) (S : BoxS) (n : Nat), vs = [.ref b] ∧ Bx K H0 H b S ∧ Bd n (S, T0) ∧ n < 900000 ∧ ∀ H' t, BTx K H0 H' b t (passBy S) → Q (.ref t) H'
set_option maxHeartbeats 2000000 in
theorem ok_Box_pass_by (T : Txt w K mg) {fd : FuncData} (F : FunD K d_Box_pass_by.name d_Box_pass_by.qual d_Box_pass_by.params d_Box_pass_by.body d_Box_pass_by.scope (d_Box_pass_by.dvs K) (d_Box_pass_by.kws K) (He.fAd K d_Box_pass_by.at_) fd) : FnOk P w K mg base C8.CX0 3 (He.fAd K d_Box_pass_by.at_) fd ["self"] (sp_Box_pass_by K) := by
  have c_Box_let_take := c_Box_let_take (P := P) (w := w) (base := base) T
  have c_Told_init := c_Told_init (P := P) (w := w) (base := base) T
  refine F.ok sc_Box_pass_by (fun vs H Q E h => ?_) (fun cdv A outer s H vs Q E hr h => ?_)
  · obtain ⟨H0, b, S, n, rfl, _⟩ := h
    rfl
  · have hu := L2.hu_of hr
    obtain ⟨H0, b, S, n, rfl, ⟨dx, li, dv, ds, dr, hB⟩, bd, hn, q⟩ := h
    refine ⟨_, (PSs.nox ((pss_cons (ps_set (i := 1) sc_Box_pass_by.nd rfl (by first | exact Or.inl rfl | exact Or.inr rfl) (My.pe_mk0 c_Told_init hr (by decide) rfl))
  (pss_cons (ps_if (pt_val (My.pe_fldK (K := K) rfl (pv 0) rfl))
  (pss_one (ps_expr (C8.pe_mt c_Box_let_take hr (by decide) (pv 0) (pa_cons pe_non (pa_cons (pv 1) pa_nil)))))
  pss_nil)
  (pss_one (ps_ret (pv 1))))))), ?_⟩
    intro t dt nt ndt nex
    refine ⟨t, dt, rfl, upd_same, fun H1 ll lg lw lm bt nd new h1 h2 h3 h4 h5 => ⟨rfl, ?_⟩⟩
    have h := mkBT hB nt ndt nex bt nd new h1 h2 h3 h4 h5
    refine ⟨_, rfl, b, _, dx, _, _, rfl, h.hb, T.cl_Box, T.no_Box_ajar, rfl, _, rfl, ?_⟩
    unfold passBy at q
    cases c : S.ajar with
    | false =>
      rw [if_neg (by rw [c]; exact Bool.false_ne_true)] at q
      exact ⟨_, rfl, q _ _ ⟨dx, li, dv, ds, dr, dt, _, ll, lg, lw, lm, h⟩⟩
    | true =>
      rw [if_pos c] at q
      exact ⟨_, rfl, b, dx, _, rfl, h.hb, rfl, _, rfl, H0, b, t, none, (S, T0), n, rfl, ⟨dx, li, dv, ds, dr, dt, _, ll, lg, lw, lm, h⟩, bd, by omega, fun H2 hx => ⟨_, rfl, q _ _ hx⟩⟩
theorem c_Box_pass_by (T : Txt w K mg) : C8.Met P w K mg base 3 (He.ga K "Box") "pass_by" (sp_Box_pass_by K) [] := by
  obtain ⟨fd, F⟩ := T.f_Box_pass_by
  exact ⟨_, fd, _, _, T.cl_Box, T.m_Box_pass_by, ok_Box_pass_by T F, F.bindsN (fun _ _ _ _ _ _ us hl => match us, hl with | [_], _ => rfl), .nil⟩
def sp_Box_power (K : PySem.W.Frag) : Sp := fun vs H Q _ => ∃ (H0 : Hp) (b k : Addr) (d : Int) (rs : List RuleL) (S : BoxS) (n : Nat), vs = [.ref b, .ref k] ∧ Bx K H0 H b S ∧ BookAt K H0 k d rs ∧ GoodB rs ∧ Bd n (S, T0) ∧ n < 900000 ∧ ∀ H' t, BTx K H0 H' b t (powerF rs S) → Q (.ref t) H'
set_option maxHeartbeats 2000000 in
theorem ok_Box_power (T : Txt w K mg) {fd : FuncData} (F : FunD K d_Box_power.name d_Box_power.qual d_Box_power.params d_Box_power.body d_Box_power.scope (d_Box_power.dvs K) (d_Box_power.kws K) (He.fAd K d_Box_power.at_) fd) : FnOk P w K mg base C8.CX0 4 (He.fAd K d_Box_power.at_) fd ["self", "book"] (sp_Box_power K) := by
  have c_Box_carry_out := c_Box_carry_out (P := P) (w := w) (base := base) T
  have c_Told_init := c_Told_init (P := P) (w := w) (base := base) T
  refine F.ok sc_Box_power (fun vs H Q E h => ?_) (fun cdv A outer s H vs Q E hr h => ?_)
  · obtain ⟨H0, b, k, d, rs, S, n, rfl, _⟩ := h
    rfl
  · have hu := L2.hu_of hr
    obtain ⟨H0, b, k, d, rs, S, n, rfl, ⟨dx, li, dv, ds, dr, hB⟩, hk, hg, bd, hn, q⟩ := h
    refine ⟨_, (PSs.nox ((pss_cons (ps_set (i := 2) sc_Box_power.nd rfl (by first | exact Or.inl rfl | exact Or.inr rfl) (My.pe_mk0 c_Told_init hr (by decide) rfl))
  (pss_cons (ps_expr (C8.pe_mt c_Box_carry_out hr (by decide) (pv 0) (pa_cons (pv 1) (pa_cons pe_str (pa_cons (pv 2) pa_nil)))))
  (pss_one (ps_ret (pv 2))))))), ?_⟩
    intro t dt nt ndt nex
    refine ⟨t, dt, rfl, upd_same, fun H1 ll lg lw lm bt nd new h1 h2 h3 h4 h5 => ⟨rfl, ?_⟩⟩
    have h := mkBT hB nt ndt nex bt nd new h1 h2 h3 h4 h5
    exact ⟨_, rfl, b, dx, _, rfl, h.hb, rfl, _, rfl, _, rfl, H0, b, t, k, "power", 7, _, d, rs, (S, T0), n, rfl, ⟨dx, li, dv, ds, dr, dt, _, ll, lg, lw, lm, h⟩, hk, rfl, hg.get (by decide), hg.six (by decide), bd, by omega, fun H2 hx => ⟨_, rfl, q _ _ hx⟩⟩
theorem c_Box_power (T : Txt w K mg) : C8.Met P w K mg base 4 (He.ga K "Box") "power" (sp_Box_power K) [] := by
  obtain ⟨fd, F⟩ := T.f_Box_power
  exact ⟨_, fd, _, _, T.cl_Box, T.m_Box_power, ok_Box_power T F, F.bindsN (fun _ _ _ _ _ _ us hl => match us, hl with | [_, _], _ => rfl), .nil⟩
def sp_Box_day (K : PySem.W.Frag) : Sp := fun vs H Q _ => ∃ (H0 : Hp) (b k : Addr) (d : Int) (rs : List RuleL) (S : BoxS) (n : Nat), vs = [.ref b, .ref k] ∧ Bx K H0 H b S ∧ BookAt K H0 k d rs ∧ GoodB rs ∧ Bd n (S, T0) ∧ n < 900000 ∧ ∀ H' t, BTx K H0 H' b t (dayF d rs S) → Q (.ref t) H'
set_option maxHeartbeats 2000000 in
theorem ok_Box_day (T : Txt w K mg) {fd : FuncData} (F : FunD K d_Box_day.name d_Box_day.qual d_Box_day.params d_Box_day.body d_Box_day.scope (d_Box_day.dvs K) (d_Box_day.kws K) (He.fAd K d_Box_day.at_) fd) : FnOk P w K mg base C8.CX0 4 (He.fAd K d_Box_day.at_) fd ["self", "book"] (sp_Box_day K) := by
  have c_Book_days := c_Book_days (P := P) (w := w) (base := base) T
  have c_Box_carry_out := c_Box_carry_out (P := P) (w := w) (base := base) T
  have c_Told_init := c_Told_init (P := P) (w := w) (base := base) T
  refine F.ok sc_Box_day (fun vs H Q E h => ?_) (fun cdv A outer s H vs Q E hr h => ?_)
  · obtain ⟨H0, b, k, d, rs, S, n, rfl, _⟩ := h
    rfl
  · have hu := L2.hu_of hr
    obtain ⟨H0, b, k, d, rs, S, n, rfl, ⟨dx, li, dv, ds, dr, hB⟩, hk, hg, bd, hn, q⟩ := h
    refine ⟨_, (PSs.nox ((pss_cons (ps_set (i := 2) sc_Box_day.nd rfl (by first | exact Or.inl rfl | exact Or.inr rfl) (My.pe_mk0 c_Told_init hr (by decide) rfl))
  (pss_cons (ps_if (pt_cmpR op_notN (My.pe_fldK (K := K) rfl (pv 0) rfl) pe_non (nomark _))
  (pss_cons (ps_fldaug (pv 0) pe_int in_add)
  (pss_one (ps_if (pt_cmpR op_eq (My.pe_fldK (K := K) rfl (pv 0) rfl) (C8.pe_mt0 c_Book_days hr (by decide) (pv 1)) (nomark _))
  (pss_one (ps_expr (C8.pe_mt c_Box_carry_out hr (by decide) (pv 0) (pa_cons (pv 1) (pa_cons pe_str (pa_cons (pv 2) pa_nil))))))
  pss_nil)))
  pss_nil)
  (pss_one (ps_ret (pv 2))))))), ?_⟩
    intro t dt nt ndt nex
    refine ⟨t, dt, rfl, upd_same, fun H1 ll lg lw lm bt nd new h1 h2 h3 h4 h5 => ⟨rfl, ?_⟩⟩
    have h := mkBT hB nt ndt nex bt nd new h1 h2 h3 h4 h5
    refine ⟨_, rfl, b, _, dx, _, oV S.age, rfl, h.hb, T.cl_Box, T.no_Box_age, rfl, rfl, _, rfl, ?_⟩
    unfold dayF at q
    cases c : S.age with
    | none =>
      simp only [c] at q
      exact ⟨_, rfl, q _ _ ⟨dx, li, dv, ds, dr, dt, _, ll, lg, lw, lm, h⟩⟩
    | some a =>
      simp only [c] at q
      refine ⟨_, rfl, b, _, dx, _, oV S.age, rfl, h.hb, T.cl_Box, T.no_Box_age, rfl, ?_⟩
      rw [c]
      have h2 := h.set_b (S' := { S with age := some (a + 1) }) rfl rfl rfl rfl
      refine ⟨_, _, rfl, rfl, dx, _, h.hb, (by show 8 < 1000; decide), ?_⟩
      have hx2 : BTx K H0 _ b t ({ S with age := some (a + 1) }, T0) := ⟨dx, li, dv, ds, dr, dt, _, ll, lg, lw, lm, h2⟩
      have hk2 := hk.same hx2.same
      obtain ⟨dk, tk, ak, hkb, _⟩ := id hk2
      refine ⟨_, rfl, b, _, dx, _, V.int (a + 1), rfl, h2.hb, T.cl_Box, T.no_Box_age, rfl, _, rfl, k, dk, _, rfl, hkb, rfl, k, d, rs, rfl, hk2, rfl, _, rfl, ?_⟩
      by_cases e : a + 1 = d
      · rw [show decide (V.int (a + 1) = V.int d) = true from decide_eq_true (congrArg V.int e)]
        rw [if_pos e] at q
        exact ⟨_, rfl, b, dx, _, rfl, h2.hb, rfl, _, rfl, _, rfl, H0, b, t, k, "late", 6, _, d, rs, _, n, rfl, hx2, hk, rfl, hg.get (by decide), hg.six (by decide), ⟨bd.i, bd.v, bd.s, bd.r, bd.l, bd.w, bd.m⟩, by omega, fun H2 hx => ⟨_, rfl, q _ _ hx⟩⟩
      · rw [show decide (V.int (a + 1) = V.int d) = false from decide_eq_false (fun z => e (V.int.inj z))]
        rw [if_neg e] at q
        exact ⟨_, rfl, q _ _ hx2⟩
theorem c_Box_day (T : Txt w K mg) : C8.Met P w K mg base 4 (He.ga K "Box") "day" (sp_Box_day K) [] := by
  obtain ⟨fd, F⟩ := T.f_Box_day
  exact ⟨_, fd, _, _, T.cl_Box, T.m_Box_day, ok_Box_day T F, F.bindsN (fun _ _ _ _ _ _ us hl => match us, hl with | [_, _], _ => rfl), .nil⟩
def sp_Box_bring (K : PySem.W.Frag) : Sp := fun vs H Q _ => ∃ (H0 : Hp) (b k : Addr) (p : Int) (l s : Bool) (d : Int) (rs : List RuleL) (S : BoxS) (n : Nat), vs = [.ref b, .ref k, .int p, .bl l, .bl s] ∧ Bx K H0 H b S ∧ BookAt K H0 k d rs ∧ GoodB rs ∧ Bd n (S, T0) ∧ n < 900000 ∧ ∀ H' t, BTx K H0 H' b t (bringF rs p l s S) → Q (.ref t) H'
theorem Bd.lay {n : Nat} {x : BoxS × ToldS} (h : Bd n x) {p : Int} {l : Bool} : Bd (n + 1) (layIn p l x) := by
  have h1 := h.mono (Nat.le_succ n)
  unfold layIn
  split
  · refine ⟨?_, h1.v, h1.s, h1.r, h1.l, ?_, h1.m⟩
    · show (x.1.inside ++ [p]).length ≤ n + 1
      rw [List.length_append]
      exact Nat.succ_le_succ h.i
    · show (if x.1.inside.isEmpty = true then x.2.wrongs else x.2.wrongs ++ [("two" : Str)]).length ≤ n + 1
      split
      · exact h1.w
      · rw [List.length_append]
        exact Nat.succ_le_succ h.w
  · exact h1
set_option maxHeartbeats 2000000 in
theorem ok_Box_bring (T : Txt w K mg) {fd : FuncData} (F : FunD K d_Box_bring.name d_Box_bring.qual d_Box_bring.params d_Box_bring.body d_Box_bring.scope (d_Box_bring.dvs K) (d_Box_bring.kws K) (He.fAd K d_Box_bring.at_) fd) : FnOk P w K mg base C8.CX0 5 (He.fAd K d_Box_bring.at_) fd ["self", "book", "parcel", "lays", "shuts"] (sp_Box_bring K) := by
  have c_Box_go_away := c_Box_go_away (P := P) (w := w) (base := base) T
  have c_Box_carry_out := c_Box_carry_out (P := P) (w := w) (base := base) T
  have c_Told_init := c_Told_init (P := P) (w := w) (base := base) T
  refine F.ok sc_Box_bring (fun vs H Q E h => ?_) (fun cdv A outer s H vs Q E hr h => ?_)
  · obtain ⟨H0, b, k, p, l, s1, d, rs, S, n, rfl, _⟩ := h
    rfl
  · have hu := L2.hu_of hr
    obtain ⟨H0, b, k, p, l, s1, d, rs, S, n, rfl, ⟨dx, li, dv, ds, dr, hB⟩, hk, hg, bd, hn, q⟩ := h
    refine ⟨_, (PSs.nox ((pss_cons (ps_set (i := 5) sc_Box_bring.nd rfl (by first | exact Or.inl rfl | exact Or.inr rfl) (My.pe_mk0 c_Told_init hr (by decide) rfl))
  (pss_cons (ps_if (pt_cmpR op_ne (My.pe_fldK (K := K) rfl (pv 0) rfl) pe_str (nomark _))
  (pss_one (ps_ret (pv 5)))
  pss_nil)
  (pss_cons (ps_fld (pv 5) pe_bl rfl)
  (pss_cons (ps_fld (pv 0) pe_bl rfl)
  (pss_cons (ps_fld (pv 0) pe_int rfl)
  (pss_cons (ps_fld (pv 0) (pv 2) rfl)
  (pss_cons (ps_expr (C8.pe_mt c_Box_carry_out hr (by decide) (pv 0) (pa_cons (pv 1) (pa_cons pe_str (pa_cons (pv 5) pa_nil)))))
  (pss_cons (ps_if (PW.pt (pw_and (pt_val (pv 3)) (pw_and1 (pt_val (My.pe_fldK (K := K) rfl (pv 0) rfl)))))
  (pss_cons (ps_if (My.pt_truthK (K := K) rfl (My.pe_fldK (K := K) rfl (pv 0) rfl) (by intro _; rfl))
  (pss_one (ps_expr (My.pe_bmK (K := K) rfl PySem.F.plainAttrs_list PySem.F.slot_list_append PySem.F.type_list_append mt_append (My.pe_fldK (K := K) rfl (pv 5) rfl) (pa_cons pe_str pa_nil))))
  pss_nil)
  (pss_cons (ps_expr (My.pe_bmK (K := K) rfl PySem.F.plainAttrs_list PySem.F.slot_list_append PySem.F.type_list_append mt_append (My.pe_fldK (K := K) rfl (pv 0) rfl) (pa_cons (pv 2) pa_nil)))
  (pss_one (ps_fld (pv 5) pe_bl rfl))))
  pss_nil)
  (pss_cons (ps_expr (C8.pe_mt c_Box_go_away hr (by decide) (pv 0) (pa_cons (pv 1) (pa_cons (pv 4) (pa_cons (pe_tup (pa_cons pe_str (pa_cons pe_str pa_nil))) (pa_cons (pv 5) pa_nil))))))
  (pss_one (ps_ret (pv 5)))))))))))))), ?_⟩
    intro t dt nt ndt nex
    refine ⟨t, dt, rfl, upd_same, fun H1 ll lg lw lm bt nd new h1 h2 h3 h4 h5 => ⟨rfl, ?_⟩⟩
    have h := mkBT hB nt ndt nex bt nd new h1 h2 h3 h4 h5
    refine ⟨_, rfl, b, _, dx, _, _, rfl, h.hb, T.cl_Box, T.no_Box_taken_for, rfl, rfl, _, rfl, ?_⟩
    unfold bringF at q
    by_cases c : S.tf = "free"
    · rw [if_pos c] at q
      rw [show (!decide (V.str S.tf = V.str "free")) = false by rw [str_eqT c]; rfl]
      -- what is left behind the laying
      have last : ∀ (H2 : Hp) (x : BoxS × ToldS) (m : Nat), BTx K H0 H2 b t x → Bd m x → m < 950000 → (∀ H' t, BTx K H0 H' b t (goAway s1 "laid" "left" (at_ rs 1) (at_ rs 2) x) → Q (.ref t) H') →
          tSeq (tDrop (tMeth (He.ga K "Box") "_go_away" (sp_Box_go_away K) [] C8.E0 (tVar 0) (tCons (tVar 1) (tCons (tVar 4) (tCons (tTup (tCons (tC (.str "laid")) (tCons (tC (.str "left")) tNil))) (tCons (tVar 5) tNil)))))) (tRet (tVar 5))
            { nx := fun _ H' => Q .non H', rt := Q } [some (.ref b), some (.ref k), some (.int p), some (.bl l), some (.bl s1), some (.ref t)] H2 := by
        intro H2 x m hx bdx hm q2
        obtain ⟨dx2, li2, dv2, ds2, dr2, dt2, yb2, ll2, lg2, lw2, lm2, h2⟩ := id hx
        refine ⟨_, rfl, b, dx2, _, rfl, h2.hb, rfl, _, rfl, _, rfl, by show 2 ≤ sizeLine; decide, fun g hgn => ⟨_, rfl, ?_⟩⟩
        exact ⟨H0, b, t, k, g, s1, "laid", "left", 1, 2, _, _, d, rs, x, m, rfl, tupN hx hgn, hk, SqT.of upd_same, rfl, hg.get (by decide), hg.six (by decide), rfl, hg.get (by decide), hg.six (by decide), bdx, by omega, fun H3 hx3 => ⟨_, rfl, q2 _ _ hx3⟩⟩
      refine ⟨_, rfl, t, _, dt, _, rfl, h.ht, T.cl_Told, T.no_Told_opened, (by show 6 < 1000; decide), ?_⟩
      have g1 := h.set_t (T' := { T0 with opened := true }) rfl rfl rfl rfl
      refine ⟨_, rfl, b, _, dx, _, rfl, g1.hb, T.cl_Box, T.no_Box_ajar, (by show 8 < 1000; decide), ?_⟩
      have g2 := g1.set_b (S' := { S with ajar := true }) rfl rfl rfl rfl
      refine ⟨_, rfl, b, _, dx, _, rfl, g2.hb, T.cl_Box, T.no_Box_age, (by show 8 < 1000; decide), ?_⟩
      have g3 := g2.set_b (S' := { S with ajar := true, age := some 0 }) rfl rfl rfl rfl
      refine ⟨_, rfl, _, rfl, b, _, dx, _, rfl, g3.hb, T.cl_Box, T.no_Box_last, (by show 8 < 1000; decide), ?_⟩
      have g4 := g3.set_b (S' := { S with ajar := true, age := some 0, last := some p }) rfl rfl rfl rfl
      have hx4 : BTx K H0 _ b t ({ S with ajar := true, age := some 0, last := some p }, { T0 with opened := true }) := ⟨dx, li, dv, ds, dr, dt, _, ll, lg, lw, lm, g4⟩
      have bd4 : Bd n ({ S with ajar := true, age := some 0, last := some p }, { T0 with opened := true }) := ⟨bd.i, bd.v, bd.s, bd.r, bd.l, bd.w, bd.m⟩
      have bd5 := (bd4.carry (at_ rs 0) "given").mono (m := n + 7) (by have := hg.six (i := 0) (by decide); omega)
      refine ⟨_, rfl, b, dx, _, rfl, g4.hb, rfl, _, rfl, _, rfl, H0, b, t, k, "given", 0, _, d, rs, _, n, rfl, hx4, hk, rfl, hg.get (by decide), hg.six (by decide), bd4, by omega, fun H2 hx => ?_⟩
      have bd6 := bd5.lay (p := p) (l := l)
      generalize hy : carry (at_ rs 0) "given" ({ S with ajar := true, age := some 0, last := some p }, { T0 with opened := true }) = y at hx q bd5 bd6
      obtain ⟨Y, U⟩ := y
      have q' := fun (e : layIn p l (Y, U) = layIn p l (Y, U)) => q
      refine ⟨_, rfl, _, rfl, ?_⟩
      cases l with
      | false =>
        have e0 : layIn p false (Y, U) = (Y, U) := by
          unfold layIn
          rw [if_neg (fun z => Bool.false_ne_true z.1)]
        rw [e0] at q
        exact last _ _ _ hx bd5 (by omega) q
      | true =>
        obtain ⟨dx2, li2, dv2, ds2, dr2, dt2, yb2, ll2, lg2, lw2, lm2, h2⟩ := id hx
        refine ⟨_, rfl, b, _, dx2, _, _, rfl, h2.hb, T.cl_Box, T.no_Box_ajar, rfl, _, rfl, ?_⟩
        cases ca : Y.ajar with
        | false =>
          have e0 : layIn p true (Y, U) = (Y, U) := by
            unfold layIn
            rw [if_neg (fun z => by have := z.2; rw [show (Y, U).1.ajar = Y.ajar from rfl, ca] at this; exact Bool.false_ne_true this)]
          rw [e0] at q
          exact last _ _ _ hx bd5 (by omega) q
        | true =>
          have e0 : layIn p true (Y, U) = ({ Y with inside := Y.inside ++ [p] }, { U with wrongs := if Y.inside.isEmpty = true then U.wrongs else U.wrongs ++ [("two" : Str)] }) := by
            unfold layIn
            rw [if_pos ⟨rfl, ca⟩]
          rw [e0] at q bd6
          refine ⟨_, rfl, b, _, dx2, _, _, rfl, h2.hb, T.cl_Box, T.no_Box_inside, rfl, !(Y.inside.map V.int).isEmpty, .inl ⟨_, SqL.of h2.hli, rfl⟩, ?_⟩
          rw [List.isEmpty_map]
          have zi : Y.inside.length ≤ n + 7 := bd5.i
          have zw : U.wrongs.length ≤ n + 7 := bd5.w
          have ei : Y.inside.map V.int ++ [V.int p] = (Y.inside ++ [p]).map V.int := by rw [List.map_append]; rfl
          cases ce : Y.inside.isEmpty with
          | true =>
            rw [ce, if_pos rfl] at q bd6
            refine ⟨_, rfl, b, _, dx2, _, _, rfl, h2.hb, T.cl_Box, T.no_Box_inside, rfl, .inl ⟨rfl, _, SqL.of h2.hli⟩, _, rfl, li2, _, _, rfl, rfl, h2.hli, by rw [List.length_map]; exact lt_line (by show Y.inside.length ≤ 1000000; omega), ?_⟩
            rw [ei]
            have h3 := h2.set_li (S' := { Y with inside := Y.inside ++ [p] }) rfl
            refine ⟨_, rfl, t, _, dt2, _, rfl, h3.ht, T.cl_Told, T.no_Told_lays, (by show 6 < 1000; decide), ?_⟩
            have hx5 : BTx K H0 _ b t ({ Y with inside := Y.inside ++ [p] }, U) := ⟨dx2, li2, dv2, ds2, dr2, dt2, _, ll2, lg2, lw2, lm2, h3.set_y true⟩
            exact last _ _ _ hx5 bd6 (by omega) q
          | false =>
            rw [ce, if_neg Bool.false_ne_true] at q bd6
            refine ⟨_, rfl, t, _, dt2, _, _, rfl, h2.ht, T.cl_Told, T.no_Told_wrongs, rfl, .inl ⟨rfl, _, SqL.of h2.hlw⟩, lw2, _, _, rfl, rfl, h2.hlw, by rw [List.length_map]; exact lt_line (by show U.wrongs.length ≤ 1000000; omega), ?_⟩
            have ew : U.wrongs.map V.str ++ [V.str "two"] = (U.wrongs ++ [("two" : Str)]).map V.str := by rw [List.map_append]; rfl
            have h3 := h2.set_lw (T' := { U with wrongs := U.wrongs ++ [("two" : Str)] }) rfl
            rw [← ew] at h3
            refine ⟨_, rfl, b, _, dx2, _, _, rfl, h3.hb, T.cl_Box, T.no_Box_inside, rfl, .inl ⟨rfl, _, SqL.of h3.hli⟩, _, rfl, li2, _, _, rfl, rfl, h3.hli, by rw [List.length_map]; exact lt_line (by show Y.inside.length ≤ 1000000; omega), ?_⟩
            have h4 := h3.set_li (S' := { Y with inside := Y.inside ++ [p] }) rfl
            rw [← ei] at h4
            refine ⟨_, rfl, t, _, dt2, _, rfl, h4.ht, T.cl_Told, T.no_Told_lays, (by show 6 < 1000; decide), ?_⟩
            have hx5 : BTx K H0 _ b t ({ Y with inside := Y.inside ++ [p] }, { U with wrongs := U.wrongs ++ [("two" : Str)] }) := ⟨dx2, li2, dv2, ds2, dr2, dt2, _, ll2, lg2, lw2, lm2, h4.set_y true⟩
            exact last _ _ _ hx5 bd6 (by omega) q
    · rw [if_neg c] at q
      rw [show (!decide (V.str S.tf = V.str "free")) = true by rw [str_eqF c]; rfl]
      exact ⟨_, rfl, q _ _ ⟨dx, li, dv, ds, dr, dt, _, ll, lg, lw, lm, h⟩⟩
theorem c_Box_bring (T : Txt w K mg) : C8.Met P w K mg base 5 (He.ga K "Box") "bring" (sp_Box_bring K) [] := by
  obtain ⟨fd, F⟩ := T.f_Box_bring
  exact ⟨_, fd, _, _, T.cl_Box, T.m_Box_bring, ok_Box_bring T F, F.bindsN (fun _ _ _ _ _ _ us hl => match us, hl with | [_, _, _, _, _], _ => rfl), .nil⟩
end
end K15

namespace K15
open PySem PySem.Spec PyProof.Rows L2 My
def takeIf (p : Int) (t : Bool) (x : BoxS × ToldS) : BoxS × ToldS := if t = true ∧ x.1.ajar = true then letTake (some p) x else x
def addW (c : Bool) (wd : Str) (x : BoxS × ToldS) : BoxS × ToldS := if c = true then (x.1, { x.2 with wrongs := x.2.wrongs ++ [wd] }) else x
def missF (p : Int) (S : BoxS) : Bool := decide (p ∉ S.inside) && decide (p ∉ S.served)
def codeF (rs : List RuleL) (p : Int) (t s : Bool) (S : BoxS) : BoxS × ToldS :=
  if p ∈ S.valid then goAway s "taken" "gone" (at_ rs 4) (at_ rs 5) (addW (missF p S) "empty" (takeIf p t (carry (at_ rs 3) "opened" ({ S with ajar := true }, { T0 with opened := true }))))
  else addW (decide (p ∈ S.inside) && decide (p ∈ S.sent)) "refused" (S, T0)
theorem Bd.tk {n : Nat} {x : BoxS × ToldS} (h : Bd n x) {p : Int} {t : Bool} : Bd (n + 1) (takeIf p t x) := by
  unfold takeIf
  split
  · exact h.take _
  · exact h.mono (Nat.le_succ n)
theorem Bd.aw {n : Nat} {x : BoxS × ToldS} (h : Bd n x) {c : Bool} {wd : Str} : Bd (n + 1) (addW c wd x) := by
  have h1 := h.mono (Nat.le_succ n)
  unfold addW
  split
  · refine ⟨h1.i, h1.v, h1.s, h1.r, h1.l, ?_, h1.m⟩
    show (x.2.wrongs ++ [wd]).length ≤ n + 1
    rw [List.length_append]
    exact Nat.succ_le_succ h.w
  · exact h1
section
variable {P : Program} {w : World} {K : PySem.W.Frag} {mg : Str → Option Value} {base : Heap}
def sp_Box_code (K : PySem.W.Frag) : Sp := fun vs H Q _ => ∃ (H0 : Hp) (b k : Addr) (p : Int) (l s : Bool) (d : Int) (rs : List RuleL) (S : BoxS) (n : Nat), vs = [.ref b, .ref k, .int p, .bl l, .bl s] ∧ Bx K H0 H b S ∧ BookAt K H0 k d rs ∧ GoodB rs ∧ Bd n (S, T0) ∧ n < 900000 ∧ ∀ H' t, BTx K H0 H' b t (codeF rs p l s S) → Q (.ref t) H'
set_option maxHeartbeats 2000000 in
theorem ok_Box_code (T : Txt w K mg) {fd : FuncData} (F : FunD K d_Box_code.name d_Box_code.qual d_Box_code.params d_Box_code.body d_Box_code.scope (d_Box_code.dvs K) (d_Box_code.kws K) (He.fAd K d_Box_code.at_) fd) : FnOk P w K mg base C8.CX0 5 (He.fAd K d_Box_code.at_) fd ["self", "book", "parcel", "takes", "shuts"] (sp_Box_code K) := by
  have c_Box_go_away := c_Box_go_away (P := P) (w := w) (base := base) T
  have c_Box_let_take := c_Box_let_take (P := P) (w := w) (base := base) T
  have c_Box_carry_out := c_Box_carry_out (P := P) (w := w) (base := base) T
  have c_Told_init := c_Told_init (P := P) (w := w) (base := base) T
  refine F.ok sc_Box_code (fun vs H Q E h => ?_) (fun cdv A outer s H vs Q E hr h => ?_)
  · obtain ⟨H0, b, k, p, l, s1, d, rs, S, n, rfl, _⟩ := h
    rfl
  · have hu := L2.hu_of hr
    obtain ⟨H0, b, k, p, l, s1, d, rs, S, n, rfl, ⟨dx, li, dv, ds, dr, hB⟩, hk, hg, bd, hn, q⟩ := h
    refine ⟨_, (PSs.nox ((pss_cons (ps_set (i := 5) sc_Box_code.nd rfl (by first | exact Or.inl rfl | exact Or.inr rfl) (My.pe_mk0 c_Told_init hr (by decide) rfl))
  (pss_cons (ps_if (pt_cmp (pc_dnotin hu (pv 2) (My.pe_fldK (K := K) rfl (pv 0) rfl)))
  (pss_cons (ps_if (PW.pt (pw_and (pt_cmpR (My.in_seqK (K := K) rfl) (pv 2) (My.pe_fldK (K := K) rfl (pv 0) rfl) (by rfl)) (pw_and1 (pt_cmp (pc_din hu (pv 2) (My.pe_fldK (K := K) rfl (pv 0) rfl))))))
  (pss_one (ps_expr (My.pe_bmK (K := K) rfl PySem.F.plainAttrs_list PySem.F.slot_list_append PySem.F.type_list_append mt_append (My.pe_fldK (K := K) rfl (pv 5) rfl) (pa_cons pe_str pa_nil))))
  pss_nil)
  (pss_one (ps_ret (pv 5))))
  pss_nil)
  (pss_cons (ps_set (i := 6) sc_Box_code.nd rfl (by first | exact Or.inl rfl | exact Or.inr rfl) (pe_and (pe_cmpR (My.notIn_seqK (K := K) rfl) (pv 2) (My.pe_fldK (K := K) rfl (pv 0) rfl) (by rfl)) (pe_one (pe_cmp (pc_dnotin hu (pv 2) (My.pe_fldK (K := K) rfl (pv 0) rfl)) rfl))))
  (pss_cons (ps_fld (pv 5) pe_bl rfl)
  (pss_cons (ps_fld (pv 0) pe_bl rfl)
  (pss_cons (ps_expr (C8.pe_mt c_Box_carry_out hr (by decide) (pv 0) (pa_cons (pv 1) (pa_cons pe_str (pa_cons (pv 5) pa_nil)))))
  (pss_cons (ps_if (PW.pt (pw_and (pt_val (pv 3)) (pw_and1 (pt_val (My.pe_fldK (K := K) rfl (pv 0) rfl)))))
  (pss_one (ps_expr (C8.pe_mt c_Box_let_take hr (by decide) (pv 0) (pa_cons (pv 2) (pa_cons (pv 5) pa_nil)))))
  pss_nil)
  (pss_cons (ps_if (pt_val (pv 6))
  (pss_one (ps_expr (My.pe_bmK (K := K) rfl PySem.F.plainAttrs_list PySem.F.slot_list_append PySem.F.type_list_append mt_append (My.pe_fldK (K := K) rfl (pv 5) rfl) (pa_cons pe_str pa_nil))))
  pss_nil)
  (pss_cons (ps_expr (C8.pe_mt c_Box_go_away hr (by decide) (pv 0) (pa_cons (pv 1) (pa_cons (pv 4) (pa_cons (pe_tup (pa_cons pe_str (pa_cons pe_str pa_nil))) (pa_cons (pv 5) pa_nil))))))
  (pss_one (ps_ret (pv 5)))))))))))))), ?_⟩
    intro t dt nt ndt nex
    refine ⟨t, dt, rfl, upd_same, fun H1 ll lg lw lm bt nd new h1 h2 h3 h4 h5 => ⟨rfl, ?_⟩⟩
    have h := mkBT hB nt ndt nex bt nd new h1 h2 h3 h4 h5
    refine ⟨_, rfl, _, rfl, b, _, dx, _, _, rfl, h.hb, T.cl_Box, T.no_Box_valid, rfl, dv, _, rfl, DGet.k (k := Sum.inl p) h.hdv, _, rfl, ?_⟩
    rw [valV_kvT]
    have sent_in : ∀ (A B : Prop) (x : Bool), (x = true → A) → (x = false → B) → if x = true then A else B := fun A B x ha hb => by
      cases x with
      | true => exact ha rfl
      | false => exact hb rfl
    unfold codeF at q
    by_cases c : p ∈ S.valid
    · rw [if_pos c] at q
      rw [decide_eq_true c]
      -- behind the taking: the word, the going away
      have last : ∀ (H2 : Hp) (x : BoxS × ToldS) (m : Nat), BTx K H0 H2 b t x → Bd m x → m < 950000 → (∀ H' t, BTx K H0 H' b t (goAway s1 "taken" "gone" (at_ rs 4) (at_ rs 5) x) → Q (.ref t) H') →
          tSeq (tDrop (tMeth (He.ga K "Box") "_go_away" (sp_Box_go_away K) [] C8.E0 (tVar 0) (tCons (tVar 1) (tCons (tVar 4) (tCons (tTup (tCons (tC (.str "taken")) (tCons (tC (.str "gone")) tNil))) (tCons (tVar 5) tNil)))))) (tRet (tVar 5))
            { nx := fun _ H' => Q .non H', rt := Q } [some (.ref b), some (.ref k), some (.int p), some (.bl l), some (.bl s1), some (.ref t), some (.bl (missF p S))] H2 := by
        intro H2 x m hx bdx hm q2
        obtain ⟨dx2, li2, dv2, ds2, dr2, dt2, yb2, ll2, lg2, lw2, lm2, h2⟩ := id hx
        refine ⟨_, rfl, b, dx2, _, rfl, h2.hb, rfl, _, rfl, _, rfl, by show 2 ≤ sizeLine; decide, fun g hgn => ⟨_, rfl, ?_⟩⟩
        exact ⟨H0, b, t, k, g, s1, "taken", "gone", 4, 5, _, _, d, rs, x, m, rfl, tupN hx hgn, hk, SqT.of upd_same, rfl, hg.get (by decide), hg.six (by decide), rfl, hg.get (by decide), hg.six (by decide), bdx, by omega, fun H3 hx3 => ⟨_, rfl, q2 _ _ hx3⟩⟩
      have last2 : ∀ (H2 : Hp) (x : BoxS × ToldS) (m : Nat), BTx K H0 H2 b t x → Bd m x → m < 940000 → (∀ H' t, BTx K H0 H' b t (goAway s1 "taken" "gone" (at_ rs 4) (at_ rs 5) (addW (missF p S) "empty" x)) → Q (.ref t) H') →
          tSeq (tIfS (tB (tVar 6)) (tDrop (tBM K "list" rAppend (tFld K (tVar 5) "wrongs") (tCons (tC (.str "empty")) tNil))) tNext) (tSeq (tDrop (tMeth (He.ga K "Box") "_go_away" (sp_Box_go_away K) [] C8.E0 (tVar 0) (tCons (tVar 1) (tCons (tVar 4) (tCons (tTup (tCons (tC (.str "taken")) (tCons (tC (.str "gone")) tNil))) (tCons (tVar 5) tNil)))))) (tRet (tVar 5)))
            { nx := fun _ H' => Q .non H', rt := Q } [some (.ref b), some (.ref k), some (.int p), some (.bl l), some (.bl s1), some (.ref t), some (.bl (missF p S))] H2 := by
        intro H2 x m hx bdx hm q2
        refine ⟨_, rfl, _, rfl, ?_⟩
        unfold addW at q2
        refine sent_in _ _ _ (fun e => ?_) (fun e => ?_)
        · rw [if_pos e] at q2
          obtain ⟨Y, U⟩ := x
          obtain ⟨dx2, li2, dv2, ds2, dr2, dt2, yb2, ll2, lg2, lw2, lm2, h2⟩ := id hx
          have zw : U.wrongs.length ≤ m := bdx.w
          refine ⟨_, rfl, t, _, dt2, _, _, rfl, h2.ht, T.cl_Told, T.no_Told_wrongs, rfl, .inl ⟨rfl, _, SqL.of h2.hlw⟩, lw2, _, _, rfl, rfl, h2.hlw, by rw [List.length_map]; exact lt_line (by show U.wrongs.length ≤ 1000000; omega), ?_⟩
          have ew : U.wrongs.map V.str ++ [V.str "empty"] = (U.wrongs ++ [("empty" : Str)]).map V.str := by rw [List.map_append]; rfl
          have h3 := h2.set_lw (T' := { U with wrongs := U.wrongs ++ [("empty" : Str)] }) rfl
          rw [← ew] at h3
          refine last _ _ (m + 1) ⟨dx2, li2, dv2, ds2, dr2, dt2, yb2, ll2, lg2, lw2, lm2, h3⟩ ?_ (by omega) q2
          have := bdx.aw (c := true) (wd := "empty")
          exact this
        · rw [if_neg (by rw [e]; exact Bool.false_ne_true)] at q2
          exact last _ _ _ hx bdx (by omega) q2
      refine ⟨_, rfl, _, rfl, b, _, dx, _, _, rfl, h.hb, T.cl_Box, T.no_Box_inside, rfl, li, _, rfl, .inl (SqL.of h.hli), rfl, all_flat_int _, _, rfl, ?_⟩
      rw [show (if true = true then !inV (.int p) (S.inside.map V.int) else inV (.int p) (S.inside.map V.int)) = decide (p ∉ S.inside) by rw [if_pos rfl, inV_int, ← decide_not]]
      -- missing stands in slot 6
      have mid : ∀ (tl : TS), (tl { nx := fun _ H' => Q .non H', rt := Q } [some (.ref b), some (.ref k), some (.int p), some (.bl l), some (.bl s1), some (.ref t), some (.bl (missF p S))] H1) →
          (if decide (p ∉ S.inside) = true then tOp rEq (tC .non) (tC .non) [] H1 (fun _ _ => True) else True) → True := fun _ _ _ => trivial
      have fin : tSeq (sFld K (tVar 5) (tC (.bl true)) "opened") (tSeq (sFld K (tVar 0) (tC (.bl true)) "ajar") (tSeq (tDrop (tMeth (He.ga K "Box") "_carry_out" (sp_Box_carry_out K) [] C8.E0 (tVar 0) (tCons (tVar 1) (tCons (tC (.str "opened")) (tCons (tVar 5) tNil)))))
          (tSeq (tIfS (tAnd (tB (tVar 3)) (tB (tFld K (tVar 0) "ajar"))) (tDrop (tMeth (He.ga K "Box") "_let_take" (sp_Box_let_take K) [] C8.E0 (tVar 0) (tCons (tVar 2) (tCons (tVar 5) tNil)))) tNext)
            (tSeq (tIfS (tB (tVar 6)) (tDrop (tBM K "list" rAppend (tFld K (tVar 5) "wrongs") (tCons (tC (.str "empty")) tNil))) tNext) (tSeq (tDrop (tMeth (He.ga K "Box") "_go_away" (sp_Box_go_away K) [] C8.E0 (tVar 0) (tCons (tVar 1) (tCons (tVar 4) (tCons (tTup (tCons (tC (.str "taken")) (tCons (tC (.str "gone")) tNil))) (tCons (tVar 5) tNil)))))) (tRet (tVar 5)))))))
          { nx := fun _ H' => Q .non H', rt := Q } [some (.ref b), some (.ref k), some (.int p), some (.bl l), some (.bl s1), some (.ref t), some (.bl (missF p S))] H1 := by
        refine ⟨_, rfl, t, _, dt, _, rfl, h.ht, T.cl_Told, T.no_Told_opened, (by show 6 < 1000; decide), ?_⟩
        have g1 := h.set_t (T' := { T0 with opened := true }) rfl rfl rfl rfl
        refine ⟨_, rfl, b, _, dx, _, rfl, g1.hb, T.cl_Box, T.no_Box_ajar, (by show 8 < 1000; decide), ?_⟩
        have g2 := g1.set_b (S' := { S with ajar := true }) rfl rfl rfl rfl
        have hx2 : BTx K H0 _ b t ({ S with ajar := true }, { T0 with opened := true }) := ⟨dx, li, dv, ds, dr, dt, _, ll, lg, lw, lm, g2⟩
        have bd2 : Bd n ({ S with ajar := true }, { T0 with opened := true }) := ⟨bd.i, bd.v, bd.s, bd.r, bd.l, bd.w, bd.m⟩
        have bd3 := (bd2.carry (at_ rs 3) "opened").mono (m := n + 7) (by have := hg.six (i := 3) (by decide); omega)
        refine ⟨_, rfl, b, dx, _, rfl, g2.hb, rfl, _, rfl, _, rfl, H0, b, t, k, "opened", 3, _, d, rs, _, n, rfl, hx2, hk, rfl, hg.get (by decide), hg.six (by decide), bd2, by omega, fun H2 hx => ?_⟩
        generalize hy : carry (at_ rs 3) "opened" ({ S with ajar := true }, { T0 with opened := true }) = y at hx q bd3
        obtain ⟨Y, U⟩ := y
        refine ⟨_, rfl, _, rfl, ?_⟩
        cases l with
        | false =>
          have e0 : takeIf p false (Y, U) = (Y, U) := by
            unfold takeIf
            rw [if_neg (fun z => Bool.false_ne_true z.1)]
          rw [e0] at q
          exact last2 _ _ _ hx bd3 (by omega) q
        | true =>
          obtain ⟨dx2, li2, dv2, ds2, dr2, dt2, yb2, ll2, lg2, lw2, lm2, h2⟩ := id hx
          refine ⟨_, rfl, b, _, dx2, _, _, rfl, h2.hb, T.cl_Box, T.no_Box_ajar, rfl, _, rfl, ?_⟩
          cases ca : Y.ajar with
          | false =>
            have e0 : takeIf p true (Y, U) = (Y, U) := by
              unfold takeIf
              rw [if_neg (fun z => by have := z.2; rw [show (Y, U).1.ajar = Y.ajar from rfl, ca] at this; exact Bool.false_ne_true this)]
            rw [e0] at q
            exact last2 _ _ _ hx bd3 (by omega) q
          | true =>
            have e0 : takeIf p true (Y, U) = letTake (some p) (Y, U) := by
              unfold takeIf
              rw [if_pos ⟨rfl, ca⟩]
            rw [e0] at q
            exact ⟨_, rfl, b, dx2, _, rfl, h2.hb, rfl, _, rfl, _, rfl, H0, b, t, some p, (Y, U), n + 7, rfl, hx, bd3, by omega, fun H3 hx3 => last2 _ _ (n + 8) hx3 (bd3.take _) (by omega) q⟩
      unfold missF at fin
      by_cases ci : p ∈ S.inside
      · rw [decide_eq_false (fun z => z ci)] at fin ⊢
        exact fin
      · rw [decide_eq_true ci] at fin ⊢
        refine ⟨_, rfl, _, rfl, b, _, dx, _, _, rfl, h.hb, T.cl_Box, T.no_Box_served, rfl, dr, _, rfl, DGet.k (k := Sum.inl p) h.hdr, ?_⟩
        rw [valV_kvT, ← decide_not]
        exact fin
    · rw [if_neg c] at q
      rw [decide_eq_false c]
      refine ⟨_, rfl, _, rfl, b, _, dx, _, _, rfl, h.hb, T.cl_Box, T.no_Box_inside, rfl, li, _, rfl, .inl (SqL.of h.hli), rfl, all_flat_int _, _, rfl, ?_⟩
      rw [show (if false = true then !inV (.int p) (S.inside.map V.int) else inV (.int p) (S.inside.map V.int)) = decide (p ∈ S.inside) by rw [if_neg Bool.false_ne_true, inV_int]]
      have hx : BTx K H0 H1 b t (S, T0) := ⟨dx, li, dv, ds, dr, dt, _, ll, lg, lw, lm, h⟩
      by_cases ci : p ∈ S.inside
      · rw [decide_eq_true ci]
        rw [decide_eq_true ci] at q
        refine ⟨_, rfl, _, rfl, b, _, dx, _, _, rfl, h.hb, T.cl_Box, T.no_Box_sent, rfl, ds, _, rfl, DGet.k (k := Sum.inl p) h.hds, _, rfl, ?_⟩
        rw [valV_kvT]
        by_cases cs : p ∈ S.sent
        · rw [decide_eq_true cs]
          rw [decide_eq_true cs] at q
          refine ⟨_, rfl, t, _, dt, _, _, rfl, h.ht, T.cl_Told, T.no_Told_wrongs, rfl, .inl ⟨rfl, _, SqL.of h.hlw⟩, lw, _, _, rfl, rfl, h.hlw, by show 0 < sizeLine; decide, ?_⟩
          have h3 := h.set_lw (T' := { T0 with wrongs := [("refused" : Str)] }) rfl
          exact ⟨_, rfl, q _ _ ⟨dx, li, dv, ds, dr, dt, _, ll, lg, lw, lm, h3⟩⟩
        · rw [decide_eq_false cs]
          rw [decide_eq_false cs] at q
          exact ⟨_, rfl, q _ _ hx⟩
      · rw [decide_eq_false ci]
        rw [decide_eq_false ci] at q
        exact ⟨_, rfl, q _ _ hx⟩
theorem c_Box_code (T : Txt w K mg) : C8.Met P w K mg base 5 (He.ga K "Box") "code" (sp_Box_code K) [] := by
  obtain ⟨fd, F⟩ := T.f_Box_code
  exact ⟨_, fd, _, _, T.cl_Box, T.m_Box_code, ok_Box_code T F, F.bindsN (fun _ _ _ _ _ _ us hl => match us, hl with | [_, _, _, _, _], _ => rfl), .nil⟩
end
end K15

namespace K15
open PySem PySem.Spec PyProof.Rows L2 My
def doF (rs : List RuleL) (d : Int) (n : Int) (x : Deed) (S : BoxS) : BoxS × ToldS :=
  match x with
  | .bring l s => bringF rs n l s S
  | .code p t s => codeF rs p t s S
  | .pass => passBy S
  | .day => dayF d rs S
  | .power => powerF rs S
theorem Bd.self {n : Nat} {x : BoxS × ToldS} (h : Bd n x) : Bd n (x.1, T0) := ⟨h.i, h.v, h.s, h.r, Nat.zero_le _, Nat.zero_le _, Nat.zero_le _⟩
theorem Bd.doF {n : Nat} {S : BoxS} {rs : List RuleL} {d k : Int} {x : Deed} (hg : GoodB rs) (h : Bd n (S, T0)) : Bd (n + 16) (doF rs d k x S) := by
  have l6 := fun (i : Nat) (hi : i < 8) => hg.six (i := i) hi
  cases x with
  | bring l s =>
    show Bd (n + 16) (bringF rs k l s S)
    unfold bringF
    split
    · have b1 : Bd n ({ S with ajar := true, age := some 0, last := some k }, { T0 with opened := true }) := ⟨h.i, h.v, h.s, h.r, h.l, h.w, h.m⟩
      have b2 := (b1.carry (at_ rs 0) "given").mono (m := n + 7) (by have := l6 0 (by decide); omega)
      exact (((b2.lay (p := k) (l := l)).go (sh := s) (m1 := "laid") (m2 := "left") (l6 1 (by decide)) (l6 2 (by decide))).mono (by omega))
    · exact h.mono (by omega)
  | code p t s =>
    show Bd (n + 16) (codeF rs p t s S)
    unfold codeF
    split
    · have b1 : Bd n ({ S with ajar := true }, { T0 with opened := true }) := ⟨h.i, h.v, h.s, h.r, h.l, h.w, h.m⟩
      have b2 := (b1.carry (at_ rs 3) "opened").mono (m := n + 7) (by have := l6 3 (by decide); omega)
      exact ((((b2.tk (p := p) (t := t)).aw (c := missF p S) (wd := "empty")).go (sh := s) (m1 := "taken") (m2 := "gone") (l6 4 (by decide)) (l6 5 (by decide))).mono (by omega))
    · exact (h.aw).mono (by omega)
  | pass =>
    show Bd (n + 16) (passBy S)
    unfold passBy
    split
    · exact (h.take none).mono (by omega)
    · exact h.mono (by omega)
  | day =>
    show Bd (n + 16) (dayF d rs S)
    unfold dayF
    split
    · exact h.mono (by omega)
    · rename_i a _
      split
      · have b1 : Bd n ({ S with age := some (a + 1) }, T0) := ⟨h.i, h.v, h.s, h.r, h.l, h.w, h.m⟩
        exact (b1.carry (at_ rs 6) "late").mono (by have := l6 6 (by decide); omega)
      · exact (show Bd n ({ S with age := some (a + 1) }, T0) from ⟨h.i, h.v, h.s, h.r, h.l, h.w, h.m⟩).mono (by omega)
  | power =>
    show Bd (n + 16) (powerF rs S)
    unfold powerF
    exact (h.carry (at_ rs 7) "power").mono (by have := l6 7 (by decide); omega)
section
variable {P : Program} {w : World} {K : PySem.W.Frag} {mg : Str → Option Value} {base : Heap}
def sp_do_deed (K : PySem.W.Frag) : Sp := fun vs H Q _ => ∃ (H0 : Hp) (b k : Addr) (v : V) (x : Deed) (p : Int) (d : Int) (rs : List RuleL) (S : BoxS) (n : Nat), vs = [.ref k, .ref b, v, .int p] ∧ DeedAt K H v x ∧ Bx K H0 H b S ∧ BookAt K H0 k d rs ∧ GoodB rs ∧ Bd n (S, T0) ∧ n < 900000 ∧ ∀ H' t, BTx K H0 H' b t (doF rs d p x S) → Q (.ref t) H'
set_option maxHeartbeats 2000000 in
theorem ok_do_deed (T : Txt w K mg) {fd : FuncData} (F : FunD K d_do_deed.name d_do_deed.qual d_do_deed.params d_do_deed.body d_do_deed.scope (d_do_deed.dvs K) (d_do_deed.kws K) (He.fAd K d_do_deed.at_) fd) : FnOk P w K mg base C8.CX0 6 (He.fAd K d_do_deed.at_) fd ["book", "box", "deed", "parcel"] (sp_do_deed K) := by
  have c_Box_power := c_Box_power (P := P) (w := w) (base := base) T
  have c_Box_day := c_Box_day (P := P) (w := w) (base := base) T
  have c_Box_pass_by := c_Box_pass_by (P := P) (w := w) (base := base) T
  have c_Box_code := c_Box_code (P := P) (w := w) (base := base) T
  have c_Box_bring := c_Box_bring (P := P) (w := w) (base := base) T
  refine F.ok sc_do_deed (fun vs H Q E h => ?_) (fun cdv A outer s H vs Q E hr h => ?_)
  · obtain ⟨H0, b, k, v, x, p, d, rs, S, n, rfl, _⟩ := h
    rfl
  · have hu := L2.hu_of hr
    obtain ⟨H0, b, k, v, x, p, d, rs, S, n, rfl, ⟨a, rfl, ha⟩, hB, hk, hg, bd, hn, q⟩ := h
    obtain ⟨dx, li, dv, ds, dr, hb⟩ := id hB
    refine ⟨_, (PSs.nox ((pss_cons (ps_set (i := 4) sc_do_deed.nd rfl (by first | exact Or.inl rfl | exact Or.inr rfl) (pe_ix (My.ix_tupK (K := K) rfl) (pv 2) pe_int (fun _ _ => rfl)))
  (pss_cons (ps_if (pt_cmpR op_eq (pv 4) pe_str (nomark _))
  (pss_one (ps_ret (C8.pe_mt c_Box_bring hr (by decide) (pv 1) (pa_cons (pv 0) (pa_cons (pv 3) (pa_cons (pe_ix (My.ix_tupK (K := K) rfl) (pv 2) pe_int (fun _ _ => rfl)) (pa_cons (pe_ix (My.ix_tupK (K := K) rfl) (pv 2) pe_int (fun _ _ => rfl)) pa_nil)))))))
  pss_nil)
  (pss_cons (ps_if (pt_cmpR op_eq (pv 4) pe_str (nomark _))
  (pss_one (ps_ret (C8.pe_mt c_Box_code hr (by decide) (pv 1) (pa_cons (pv 0) (pa_cons (pe_ix (My.ix_tupK (K := K) rfl) (pv 2) pe_int (fun _ _ => rfl)) (pa_cons (pe_ix (My.ix_tupK (K := K) rfl) (pv 2) pe_int (fun _ _ => rfl)) (pa_cons (pe_ix (My.ix_tupK (K := K) rfl) (pv 2) pe_int (fun _ _ => rfl)) pa_nil)))))))
  pss_nil)
  (pss_cons (ps_if (pt_cmpR op_eq (pv 4) pe_str (nomark _))
  (pss_one (ps_ret (C8.pe_mt0 c_Box_pass_by hr (by decide) (pv 1))))
  pss_nil)
  (pss_cons (ps_if (pt_cmpR op_eq (pv 4) pe_str (nomark _))
  (pss_one (ps_ret (C8.pe_mt c_Box_day hr (by decide) (pv 1) (pa_cons (pv 0) pa_nil))))
  pss_nil)
  (pss_one (ps_ret (C8.pe_mt c_Box_power hr (by decide) (pv 1) (pa_cons (pv 0) pa_nil))))))))))), ?_⟩
    have w0 : atI x.vs 0 = some (.str x.w) := by cases x <;> rfl
    refine ⟨_, rfl, a, _, _, _, rfl, rfl, ha, w0, ?_⟩
    refine ⟨_, rfl, rfl, _, rfl, ?_⟩
    cases x with
    | bring l s => exact ⟨_, rfl, b, dx, _, rfl, hb.hb, rfl, _, rfl, _, rfl, _, rfl, a, _, _, _, rfl, rfl, ha, rfl, _, rfl, a, _, _, _, rfl, rfl, ha, rfl, H0, b, k, p, l, s, d, rs, S, n, rfl, hB, hk, hg, bd, hn, q⟩
    | code p1 t s =>
      refine ⟨_, rfl, rfl, _, rfl, ?_⟩
      exact ⟨_, rfl, b, dx, _, rfl, hb.hb, rfl, _, rfl, _, rfl, a, _, _, _, rfl, rfl, ha, rfl, _, rfl, a, _, _, _, rfl, rfl, ha, rfl, _, rfl, a, _, _, _, rfl, rfl, ha, rfl, H0, b, k, p1, t, s, d, rs, S, n, rfl, hB, hk, hg, bd, hn, q⟩
    | pass =>
      refine ⟨_, rfl, rfl, _, rfl, ?_⟩
      refine ⟨_, rfl, rfl, _, rfl, ?_⟩
      exact ⟨_, rfl, b, dx, _, rfl, hb.hb, rfl, H0, b, S, n, rfl, hB, bd, hn, q⟩
    | day =>
      refine ⟨_, rfl, rfl, _, rfl, ?_⟩
      refine ⟨_, rfl, rfl, _, rfl, ?_⟩
      refine ⟨_, rfl, rfl, _, rfl, ?_⟩
      exact ⟨_, rfl, b, dx, _, rfl, hb.hb, rfl, _, rfl, H0, b, k, d, rs, S, n, rfl, hB, hk, hg, bd, hn, q⟩
    | power =>
      refine ⟨_, rfl, rfl, _, rfl, ?_⟩
      refine ⟨_, rfl, rfl, _, rfl, ?_⟩
      refine ⟨_, rfl, rfl, _, rfl, ?_⟩
      exact ⟨_, rfl, b, dx, _, rfl, hb.hb, rfl, _, rfl, H0, b, k, d, rs, S, n, rfl, hB, hk, hg, bd, hn, q⟩
theorem c_do_deed (T : Txt w K mg) : C8.Cal P w K mg base 6 "do_deed" (sp_do_deed K) [] := by
  obtain ⟨fd, F⟩ := T.f_do_deed
  exact ⟨_, fd, _, _, ok_do_deed T F, T.g_do_deed, F.kp, F.bindsN (fun _ _ _ _ _ _ us hl => match us, hl with | [_, _, _, _], _ => rfl), .nil⟩
def sp_Box_init (K : PySem.W.Frag) : Sp := fun vs H Q _ => ∃ (b dx : Addr), vs = [.ref b] ∧ H b = some (.ins (He.ga K "Box") dx []) ∧
  ∀ H' li dv ds dr, But [b] H H' → [li, dv, ds, dr].Nodup → (∀ a ∈ [li, dv, ds, dr], H a = none) → H' b = some (.ins (He.ga K "Box") dx (bxf S0 li dv ds dr)) → H' li = some (.lst []) → H' dv = some (.dK []) → H' ds = some (.dK []) → H' dr = some (.dK []) → Q .non H'
set_option maxHeartbeats 2000000 in
theorem ok_Box_init (T : Txt w K mg) {fd : FuncData} (F : FunD K d_Box_init.name d_Box_init.qual d_Box_init.params d_Box_init.body d_Box_init.scope (d_Box_init.dvs K) (d_Box_init.kws K) (He.fAd K d_Box_init.at_) fd) : FnOk P w K mg base C8.CX0 1 (He.fAd K d_Box_init.at_) fd ["self"] (sp_Box_init K) := by
  refine F.ok sc_Box_init (fun vs H Q E h => ?_) (fun cdv A outer s H vs Q E hr h => ?_)
  · obtain ⟨t, dt, rfl, _⟩ := h
    rfl
  · have hu := L2.hu_of hr
    obtain ⟨t, dt, rfl, ht, q⟩ := h
    refine ⟨_, (PSs.nox ((pss_cons (ps_fld (pv 0) pe_bl rfl)
  (pss_cons (ps_fld (pv 0) (pe_lst pa_nil) rfl)
  (pss_cons (ps_fld (pv 0) pe_str rfl)
  (pss_cons (ps_fld (pv 0) pe_dnewK rfl)
  (pss_cons (ps_fld (pv 0) pe_non rfl)
  (pss_cons (ps_fld (pv 0) pe_non rfl)
  (pss_cons (ps_fld (pv 0) pe_dnewK rfl)
  (pss_one (ps_fld (pv 0) pe_dnewK rfl))))))))))), ?_⟩
    refine ⟨_, rfl, t, _, dt, _, rfl, ht, T.cl_Box, T.no_Box_ajar, (by show 0 < 1000; decide), ?_⟩
    refine ⟨Nat.zero_le _, fun p1 h1 => ?_⟩
    obtain ⟨a1, h1⟩ := up_none h1
    refine ⟨_, rfl, t, _, dt, _, rfl, (by rw [upd_ne a1.symm]; exact upd_same), T.cl_Box, T.no_Box_inside, (by show 1 < 1000; decide), ?_⟩
    refine ⟨_, rfl, t, _, dt, _, rfl, upd_same, T.cl_Box, T.no_Box_taken_for, (by show 2 < 1000; decide), ?_⟩
    refine fun p2 h2 => ?_
    obtain ⟨a2, h2⟩ := up_none h2
    obtain ⟨_, h2⟩ := up_none h2
    obtain ⟨b2, h2⟩ := up_none h2
    obtain ⟨_, h2⟩ := up_none h2
    refine ⟨_, rfl, t, _, dt, _, rfl, (by rw [upd_ne a2.symm]; exact upd_same), T.cl_Box, T.no_Box_valid, (by show 3 < 1000; decide), ?_⟩
    refine ⟨_, rfl, t, _, dt, _, rfl, upd_same, T.cl_Box, T.no_Box_age, (by show 4 < 1000; decide), ?_⟩
    refine ⟨_, rfl, t, _, dt, _, rfl, upd_same, T.cl_Box, T.no_Box_last, (by show 5 < 1000; decide), ?_⟩
    refine fun p3 h3 => ?_
    obtain ⟨a3, h3⟩ := up_none h3
    obtain ⟨_, h3⟩ := up_none h3
    obtain ⟨_, h3⟩ := up_none h3
    obtain ⟨c3, h3⟩ := up_none h3
    obtain ⟨_, h3⟩ := up_none h3
    obtain ⟨_, h3⟩ := up_none h3
    obtain ⟨b3, h3⟩ := up_none h3
    obtain ⟨_, h3⟩ := up_none h3
    refine ⟨_, rfl, t, _, dt, _, rfl, (by rw [upd_ne a3.symm]; exact upd_same), T.cl_Box, T.no_Box_sent, (by show 6 < 1000; decide), ?_⟩
    refine fun p4 h4 => ?_
    obtain ⟨a4, h4⟩ := up_none h4
    obtain ⟨d4, h4⟩ := up_none h4
    obtain ⟨_, h4⟩ := up_none h4
    obtain ⟨_, h4⟩ := up_none h4
    obtain ⟨_, h4⟩ := up_none h4
    obtain ⟨c4, h4⟩ := up_none h4
    obtain ⟨_, h4⟩ := up_none h4
    obtain ⟨_, h4⟩ := up_none h4
    obtain ⟨b4, h4⟩ := up_none h4
    obtain ⟨_, h4⟩ := up_none h4
    refine ⟨_, rfl, t, _, dt, _, rfl, (by rw [upd_ne a4.symm]; exact upd_same), T.cl_Box, T.no_Box_served, (by show 7 < 1000; decide), ?_⟩
    have nt : t ∈ [t] := by simp
    refine q _ p1 p2 p3 p4 ?_ ?_ ?_ upd_same ?_ ?_ ?_ ?_
    · exact ((((((((((((But.refl [t] H).put (.inr nt)).put (.inl h1)).put (.inr nt)).put (.inr nt)).put (.inl h2)).put (.inr nt)).put (.inr nt)).put (.inr nt)).put (.inl h3)).put (.inr nt)).put (.inl h4)).put (.inr nt)
    · simp only [List.nodup_cons, List.mem_cons, List.not_mem_nil, or_false, not_or, not_false_eq_true, List.nodup_nil, and_true]
      exact ⟨⟨b2.symm, b3.symm, b4.symm⟩, ⟨c3.symm, c4.symm⟩, d4.symm⟩
    · intro a ha
      simp only [List.mem_cons, List.not_mem_nil, or_false] at ha
      rcases ha with rfl | rfl | rfl | rfl <;> assumption
    · rw [upd_ne a1, upd_ne b4.symm, upd_ne a1, upd_ne b3.symm, upd_ne a1, upd_ne a1, upd_ne a1, upd_ne b2.symm, upd_ne a1, upd_ne a1, upd_same]
    · rw [upd_ne a2, upd_ne c4.symm, upd_ne a2, upd_ne c3.symm, upd_ne a2, upd_ne a2, upd_ne a2, upd_same]
    · rw [upd_ne a3, upd_ne d4.symm, upd_ne a3, upd_same]
    · rw [upd_ne a4, upd_same]
theorem c_Box_init (T : Txt w K mg) : C8.Mak P w K mg base 1 "Box" (He.ga K "Box") (sp_Box_init K) [] := by
  obtain ⟨fd, F⟩ := T.f_Box_init
  exact ⟨_, fd, _, _, T.mk_Box, ok_Box_init T F, T.g_Box, F.bindsN (fun _ _ _ _ _ _ us hl => match us, hl with | [_], _ => rfl), .nil⟩
end
end K15

namespace K15
open PySem PySem.Spec PyProof.Rows L2 My
abbrev PlayS := Int × BoxS × List ToldS
def stepF (rs : List RuleL) (d : Int) (st : PlayS) (x : Deed) : PlayS :=
  (if isBr x = true then st.1 + 1 else st.1, (doF rs d (if isBr x = true then st.1 + 1 else st.1) x st.2.1).1, st.2.2 ++ [(doF rs d (if isBr x = true then st.1 + 1 else st.1) x st.2.1).2])
def runF (rs : List RuleL) (d : Int) (ds : List Deed) : PlayS := ds.foldl (stepF rs d) (0, S0, [])
theorem runF_more {rs : List RuleL} {d : Int} {ds : List Deed} {i : Nat} {x : Deed} (h : ds[i]? = some x) : runF rs d (ds.take (i + 1)) = stepF rs d (runF rs d (ds.take i)) x := by
  unfold runF
  rw [take_more h, List.foldl_append]
  rfl
theorem runF_bd {rs : List RuleL} {d : Int} (hg : GoodB rs) : ∀ (ds : List Deed) (i : Nat), i ≤ ds.length → Bd (16 * i) ((runF rs d (ds.take i)).2.1, T0) := by
  intro ds i
  induction i with
  | zero => intro _; exact ⟨Nat.le_refl _, Nat.le_refl _, Nat.le_refl _, Nat.le_refl _, Nat.le_refl _, Nat.le_refl _, Nat.le_refl _⟩
  | succ i ih =>
    intro hi
    have hx := List.getElem?_eq_getElem (show i < ds.length by omega)
    rw [runF_more hx]
    have := ((ih (by omega)).doF hg (d := d) (k := if isBr ds[i] = true then (runF rs d (ds.take i)).1 + 1 else (runF rs d (ds.take i)).1) (x := ds[i])).self
    exact this.mono (by omega)
theorem runF_len (rs : List RuleL) (d : Int) (ds : List Deed) : (runF rs d ds).2.2.length = ds.length := by
  have hh : ∀ (l : List Deed) (st : PlayS), (l.foldl (stepF rs d) st).2.2.length = st.2.2.length + l.length := by
    intro l
    induction l with
    | nil => intro st; rfl
    | cons z l ih =>
      intro st
      rw [List.foldl_cons, ih, List.length_cons]
      show (st.2.2 ++ [_]).length + l.length = _
      rw [List.length_append]
      show st.2.2.length + 1 + l.length = _
      omega
  unfold runF
  rw [hh]
  show 0 + _ = _
  omega
def hideF (fp : List Addr) (H : Hp) : Hp := fun a => if a ∈ fp then none else H a
theorem hide_same (fp : List Addr) (H : Hp) : Same (hideF fp H) H := fun a o e => by
  unfold hideF at e
  split at e
  · cases e
  · exact e
theorem hide_none {fp : List Addr} {H : Hp} {a : Addr} (h : a ∈ fp) : hideF fp H a = none := if_pos h
theorem hide_some {fp : List Addr} {H : Hp} {a : Addr} {o : HO} (n : a ∉ fp) (h : H a = some o) : hideF fp H a = some o := by
  unfold hideF
  rw [if_neg n]
  exact h
theorem hide_in {fp : List Addr} {H : Hp} {a : Addr} {o : HO} (h : hideF fp H a = some o) : a ∉ fp := fun z => by
  rw [hide_none z] at h
  cases h
/-- a told thing (it, its letters, what was got) that stands apart from the list at sl -/
def TdAt (K : PySem.W.Frag) (H : Hp) (sl : Addr) (z : Addr × Addr × Addr) (U : ToldS) : Prop := ∃ dt yb lw lm, (sl ≠ z.1 ∧ sl ≠ z.2.1 ∧ sl ≠ z.2.2 ∧ sl ≠ lw ∧ sl ≠ lm) ∧ H z.1 = some (.ins (He.ga K "Told") dt (tdf U yb z.2.1 z.2.2 lw lm)) ∧ H z.2.1 = some (.lst (U.letters.map V.int)) ∧ H z.2.2 = some (.lst (U.got.map V.int)) ∧
  H lw = some (.lst (U.wrongs.map V.str)) ∧ H lm = some (.lst (U.moments.map V.str))
/-- the lists of letters and of what was got -/
def lets (ts : List (Addr × Addr × Addr)) : List Addr := ts.flatMap fun z => [z.2.1, z.2.2]
def StoryAt (K : PySem.W.Frag) (H0 H : Hp) (sl : Addr) (Us : List ToldS) : Prop := ∃ ts : List (Addr × Addr × Addr), H sl = some (.lst (ts.map fun z => V.ref z.1)) ∧ Paired (TdAt K H sl) ts Us ∧ (lets ts).Nodup ∧ ∀ x ∈ lets ts, H0 x = none
theorem TdAt.same {K : PySem.W.Frag} {H H' : Hp} {sl : Addr} {z : Addr × Addr × Addr} {U : ToldS} (s : But [sl] H H') (h : TdAt K H sl z U) : TdAt K H' sl z U := by
  obtain ⟨dt, yb, lw, lm, ⟨n1, n2, n3, n4, n5⟩, h1, h2, h3, h4, h5⟩ := h
  exact ⟨dt, yb, lw, lm, ⟨n1, n2, n3, n4, n5⟩, s _ _ (by simpa using n1.symm) h1, s _ _ (by simpa using n2.symm) h2, s _ _ (by simpa using n3.symm) h3, s _ _ (by simpa using n4.symm) h4, s _ _ (by simpa using n5.symm) h5⟩
theorem lets_some {K : PySem.W.Frag} {H : Hp} {sl : Addr} : ∀ {ts : List (Addr × Addr × Addr)} {Us : List ToldS}, Paired (TdAt K H sl) ts Us → ∀ x ∈ lets ts, ∃ o, H x = some o
  | _, _, .nil, x, hx => by cases hx
  | z :: ts, _, .cons r t, x, hx => by
    obtain ⟨dt, yb, lw, lm, _, h1, h2, h3, _⟩ := r
    have hx2 : x ∈ z.2.1 :: z.2.2 :: lets ts := hx
    rcases List.mem_cons.mp hx2 with e | hx2
    · rw [e]; exact ⟨_, h2⟩
    · rcases List.mem_cons.mp hx2 with e | hx2
      · rw [e]; exact ⟨_, h3⟩
      · exact lets_some t x hx2
theorem lets_app (ts us : List (Addr × Addr × Addr)) : lets (ts ++ us) = lets ts ++ lets us := by
  unfold lets
  rw [List.flatMap_append]
/-- behind some deeds: the box, the story, all that stood -/
def PlayedAt (K : PySem.W.Frag) (H H' : Hp) (b sl : Addr) (S : BoxS) (Us : List ToldS) : Prop := ∃ dx li dv ds dr, BxA K (hideF [b, li, dv, ds, dr] H') H' b dx li dv ds dr S ∧ Same H (hideF [b, li, dv, ds, dr] H') ∧ StoryAt K H (hideF [b, li, dv, ds, dr] H') sl Us ∧ H sl = none
theorem bxa_hide {K : PySem.W.Frag} {H : Hp} {b dx li dv ds dr : Addr} {S : BoxS} (nd : [b, li, dv, ds, dr].Nodup) (hb : H b = some (.ins (He.ga K "Box") dx (bxf S li dv ds dr))) (hli : H li = some (.lst (S.inside.map V.int))) (hdv : H dv = some (.dK (kvT S.valid)))
    (hds : H ds = some (.dK (kvT S.sent))) (hdr : H dr = some (.dK (kvT S.served))) : BxA K (hideF [b, li, dv, ds, dr] H) H b dx li dv ds dr S :=
  ⟨hide_same _ _, nd, fun _ ha => hide_none ha, hb, hli, hdv, hds, hdr⟩
section
variable {P : Program} {w : World} {K : PySem.W.Frag} {mg : Str → Option Value} {base : Heap}
def sp_played (K : PySem.W.Frag) : Sp := fun vs H Q _ => ∃ (k a : Addr) (d : Int) (rs : List RuleL) (xs : List V) (ds : List Deed), vs = [.ref k, .ref a] ∧ BookAt K H k d rs ∧ GoodB rs ∧ SqL K H a xs ∧ DeedsAt K H xs ds ∧ ds.length ≤ 50000 ∧
  ∀ H' p b sl, PlayedAt K H H' b sl (runF rs d ds).2.1 (runF rs d ds).2.2 → H' p = some (.tup [.ref b, .ref sl]) → H p = none → Q (.ref p) H'
set_option maxHeartbeats 2000000 in
theorem ok_played (T : Txt w K mg) {fd : FuncData} (F : FunD K d_played.name d_played.qual d_played.params d_played.body d_played.scope (d_played.dvs K) (d_played.kws K) (He.fAd K d_played.at_) fd) : FnOk P w K mg base C8.CX0 7 (He.fAd K d_played.at_) fd ["book", "deeds"] (sp_played K) := by
  have c_do_deed := c_do_deed (P := P) (w := w) (base := base) T
  have c_Box_init := c_Box_init (P := P) (w := w) (base := base) T
  refine F.ok sc_played (fun vs H Q E h => ?_) (fun cdv A outer s H vs Q E hr h => ?_)
  · obtain ⟨k, a, d, rs, xs, ds, rfl, _⟩ := h
    rfl
  · have hu := L2.hu_of hr
    obtain ⟨k, a, d, rs, xs, ds, rfl, hk, hg, hS, hD, hl, q⟩ := h
    have hlen : xs.length = ds.length := hD.length
    refine ⟨_, (PSs.nox ((pss_cons (ps_set (i := 2) sc_played.nd rfl (by first | exact Or.inl rfl | exact Or.inr rfl) (My.pe_mk0 c_Box_init hr (by decide) rfl))
  (pss_cons (ps_set (i := 3) sc_played.nd rfl (by first | exact Or.inl rfl | exact Or.inr rfl) pe_int)
  (pss_cons (ps_set (i := 4) sc_played.nd rfl (by first | exact Or.inl rfl | exact Or.inr rfl) (pe_lst pa_nil))
  (pss_cons (ps_for PassesOwn.never rfl (My.pi_listK (K := K) rfl (pv 1)) (pg_name (i := 5) sc_played.nd rfl (by first | exact Or.inl rfl | exact Or.inr rfl))
  (pss_cons (ps_if (pt_cmpR op_eq (pe_ix (My.ix_tupK (K := K) rfl) (pv 5) pe_int (fun _ _ => rfl)) pe_str (nomark _))
  (pss_one (ps_aug (i := 3) sc_played.nd rfl (by first | exact Or.inl rfl | exact Or.inr rfl) pe_int ip_add))
  pss_nil)
  (pss_one (ps_expr (My.pe_bmK (K := K) rfl PySem.F.plainAttrs_list PySem.F.slot_list_append PySem.F.type_list_append mt_append (pv 4) (pa_cons (C8.pe_c c_do_deed hr (by decide) rfl (pa_cons (pv 0) (pa_cons (pv 2) (pa_cons (pv 5) (pa_cons (pv 3) pa_nil))))) pa_nil))))))
  (pss_one (ps_ret (pe_tup (pa_cons (pv 2) (pa_cons (pv 4) pa_nil))))))))))), ?_⟩
    intro b dx nb ndb nex
    have s0 : Same H (upd (upd H dx (.own b)) b (.ins (He.ga K "Box") dx [])) := (same_new ndb).trans (same_upd (Same.refl _) (by rw [upd_ne nex.symm]; exact nb))
    refine ⟨b, dx, rfl, upd_same, fun H1 li dv dsn dr bt nd new h1 h2 h3 h4 h5 => ⟨rfl, ?_⟩⟩
    have new2 : ∀ x ∈ [li, dv, dsn, dr], x ≠ b ∧ H x = none := fun x hx => by
      obtain ⟨y1, y2⟩ := up_none (new x hx)
      obtain ⟨_, y3⟩ := up_none y2
      exact ⟨y1, y3⟩
    have s1 : Same H H1 := fun c o e => bt c o (by simpa using ne_of_none e nb) (s0 _ _ e)
    have ndb5 : [b, li, dv, dsn, dr].Nodup := List.nodup_cons.mpr ⟨fun z => (new2 b z).1 rfl, nd⟩
    have none5 : ∀ x ∈ [b, li, dv, dsn, dr], H x = none := fun x hx => by
      rcases List.mem_cons.mp hx with z | z
      · rw [z]; exact nb
      · exact (new2 x z).2
    refine ⟨Nat.zero_le _, fun sl hsl => ?_⟩
    have nslb : sl ≠ b := (ne_of_none h1 hsl).symm
    have nsl5 : sl ∉ [b, li, dv, dsn, dr] := by
      simp only [List.mem_cons, List.not_mem_nil, or_false, not_or]
      exact ⟨nslb, (ne_of_none h2 hsl).symm, (ne_of_none h3 hsl).symm, (ne_of_none h4 hsl).symm, (ne_of_none h5 hsl).symm⟩
    have hHsl : H sl = none := s1.free hsl
    have ini : PlayedAt K H (upd H1 sl (.lst [])) b sl S0 [] := by
      simp only [List.mem_cons, List.not_mem_nil, or_false, not_or] at nsl5
      refine ⟨dx, li, dv, dsn, dr, bxa_hide ndb5 (by rw [upd_ne nslb.symm]; exact h1) (by rw [upd_ne (Ne.symm nsl5.2.1)]; exact h2) (by rw [upd_ne (Ne.symm nsl5.2.2.1)]; exact h3) (by rw [upd_ne (Ne.symm nsl5.2.2.2.1)]; exact h4) (by rw [upd_ne (Ne.symm nsl5.2.2.2.2)]; exact h5), ?_, ⟨[], ?_, .nil, List.nodup_nil, fun x hx => by cases hx⟩, hHsl⟩
      · intro c o e
        refine hide_some (fun z => ?_) (same_upd s1 hHsl _ _ e)
        rw [none5 c z] at e
        cases e
      · refine hide_some ?_ upd_same
        simp only [List.mem_cons, List.not_mem_nil, or_false, not_or]
        exact nsl5
    have psame : ∀ {H' : Hp} {S : BoxS} {Us : List ToldS}, PlayedAt K H H' b sl S Us → Same H H' := fun ⟨_, _, _, _, _, _, z, _⟩ => z.trans (hide_same _ _)
    refine ⟨_, rfl, a, rfl, ⟨_, (psame ini).seq hS⟩, ?_⟩
    refine for_list (K := K) (a := a) (xs := xs) (fun i σ H' => ∃ u, σ = [some (.ref k), some (.ref a), some (.ref b), some (.int (runF rs d (ds.take i)).1), some (.ref sl), u] ∧ PlayedAt K H H' b sl (runF rs d (ds.take i)).2.1 (runF rs d (ds.take i)).2.2) ⟨_, rfl, ini⟩ (fun i σ H' _ ⟨_, _, z⟩ => (psame z).seq hS) ?_ ?_
    · rintro i y σ H2 hi ⟨u, rfl, hp⟩
      obtain ⟨x, hx, hat⟩ := paired_at hD hi
      obtain ⟨dx2, li2, dv2, ds2, dr2, hB, s2, ⟨ts, hts, htd, hnd, hfr⟩, hsl0⟩ := id hp
      have sH2 : Same H H2 := psame hp
      obtain ⟨ax, rfl, hax⟩ := hat
      have hax2 := same_tup sH2 hax
      have w0 : atI x.vs 0 = some (.str x.w) := by cases x <;> rfl
      have hib : i < ds.length := (List.getElem?_eq_some_iff.mp hx).1
      have bdi := runF_bd (d := d) hg ds i (by omega)
      -- behind the counting
      have last : ∀ n' : Int, n' = (if isBr x = true then (runF rs d (ds.take i)).1 + 1 else (runF rs d (ds.take i)).1) →
          tDrop (tBM K "list" rAppend (tVar 4) (tCons (tCall (sp_do_deed K) [] C8.E0 (tCons (tVar 0) (tCons (tVar 2) (tCons (tVar 5) (tCons (tVar 3) tNil))))) tNil))
            { nx := fun σ H' => ∃ u, σ = [some (.ref k), some (.ref a), some (.ref b), some (.int (runF rs d (ds.take (i + 1))).1), some (.ref sl), u] ∧ PlayedAt K H H' b sl (runF rs d (ds.take (i + 1))).2.1 (runF rs d (ds.take (i + 1))).2.2, rt := Q }
            [some (.ref k), some (.ref a), some (.ref b), some (.int n'), some (.ref sl), some (.ref ax)] H2 := by
        intro n' en
        have hsl2 := hide_same _ _ _ _ hts
        refine ⟨_, rfl, .inl ⟨rfl, _, SqL.of hsl2⟩, _, rfl, _, rfl, _, rfl, _, rfl, hideF [b, li2, dv2, ds2, dr2] H2, b, k, _, x, n', d, rs, _, 16 * i, rfl, ⟨ax, rfl, hax2⟩, ⟨dx2, li2, dv2, ds2, dr2, hB⟩, hk.same s2, hg, bdi, by omega, fun H3 t hx3 => ?_⟩
        obtain ⟨dx3, li3, dv3, ds3, dr3, dt, yb, ll, lg, lw, lm, h3⟩ := hx3
        have hsl3 := h3.same _ _ hts
        refine ⟨sl, _, _, rfl, rfl, hsl3, ?_, ?_⟩
        · rw [List.length_map, htd.length]
          have : (runF rs d (ds.take i)).2.2.length ≤ 50000 := by
            have hh : ∀ (l : List Deed) (st : PlayS), (l.foldl (stepF rs d) st).2.2.length = st.2.2.length + l.length := by
              intro l
              induction l with
              | nil => intro st; rfl
              | cons z l ih =>
                intro st
                rw [List.foldl_cons, ih, List.length_cons]
                show (st.2.2 ++ [_]).length + l.length = _
                rw [List.length_append]
                show st.2.2.length + 1 + l.length = _
                omega
            unfold runF
            rw [hh, List.length_take]
            show 0 + _ ≤ _
            omega
          exact lt_line (by omega)
        · refine ⟨some (.ref ax), ?_, ?_⟩
          · rw [runF_more hx, en]
            rfl
          rw [runF_more hx]
          have nsl : ∀ z ∈ [b, li3, dv3, ds3, dr3, t, ll, lg, lw, lm], sl ≠ z := fun z hz e => by
            rw [← e] at hz
            rw [h3.new sl hz] at hts
            cases hts
          have es : upd H3 sl (.lst (ts.map (fun z => V.ref z.1) ++ [V.ref t])) = upd H3 sl (.lst ((ts ++ [(t, ll, lg)]).map fun z => V.ref z.1)) := by rw [List.map_append]; rfl
          rw [es]
          have nd5 : [b, li3, dv3, ds3, dr3].Nodup := (List.nodup_append.mp (show ([b, li3, dv3, ds3, dr3] ++ [t, ll, lg, lw, lm]).Nodup from h3.nd)).1
          have out5 : ∀ z ∈ [t, ll, lg, lw, lm], z ∉ [b, li3, dv3, ds3, dr3] := fun z hz hz2 => (List.nodup_append.mp (show ([b, li3, dv3, ds3, dr3] ++ [t, ll, lg, lw, lm]).Nodup from h3.nd)).2.2 z hz2 z hz rfl
          have hid : ∀ c o, hideF [b, li2, dv2, ds2, dr2] H2 c = some o → c ≠ sl → hideF [b, li3, dv3, ds3, dr3] (upd H3 sl (.lst ((ts ++ [(t, ll, lg)]).map fun z => V.ref z.1))) c = some o := fun c o e ne => by
            refine hide_some (fun z => ?_) (by rw [upd_ne ne]; exact h3.same _ _ e)
            rw [h3.new c (by
              have : c ∈ [b, li3, dv3, ds3, dr3] ++ [t, ll, lg, lw, lm] := List.mem_append_left _ z
              exact this)] at e
            cases e
          have newt : ∀ z ∈ [t, ll, lg, lw, lm], ∀ o, H3 z = some o → hideF [b, li3, dv3, ds3, dr3] (upd H3 sl (.lst ((ts ++ [(t, ll, lg)]).map fun z => V.ref z.1))) z = some o := fun z hz o e => by
            refine hide_some (out5 z hz) (by
              rw [upd_ne (nsl z (by
                have : z ∈ [b, li3, dv3, ds3, dr3] ++ [t, ll, lg, lw, lm] := List.mem_append_right _ hz
                exact this)).symm]
              exact e)
          refine ⟨dx3, li3, dv3, ds3, dr3, bxa_hide nd5 (by rw [upd_ne (nsl b (by simp)).symm]; subst en; exact h3.hb) (by rw [upd_ne (nsl li3 (by simp)).symm]; subst en; exact h3.hli) (by rw [upd_ne (nsl dv3 (by simp)).symm]; subst en; exact h3.hdv) (by rw [upd_ne (nsl ds3 (by simp)).symm]; subst en; exact h3.hds) (by rw [upd_ne (nsl dr3 (by simp)).symm]; subst en; exact h3.hdr), ?_, ⟨ts ++ [(t, ll, lg)], ?_, ?_, ?_, ?_⟩, hsl0⟩
          · exact fun c o e => hid c o (s2 _ _ e) (ne_of_none e hsl0)
          · refine hide_some (fun z => ?_) upd_same
            exact nsl sl (by
              have : sl ∈ [b, li3, dv3, ds3, dr3] ++ [t, ll, lg, lw, lm] := List.mem_append_left _ z
              exact this) rfl
          · refine Paired.snoc (paired_map (fun z U _ hz => hz.same (fun c o n e => hid c o e (by simpa using n))) htd) ?_
            refine ⟨dt, yb, lw, lm, ⟨nsl t (by simp), nsl ll (by simp), nsl lg (by simp), nsl lw (by simp), nsl lm (by simp)⟩, ?_, ?_, ?_, ?_, ?_⟩
            · subst en; exact newt t (by simp) _ h3.ht
            · subst en; exact newt ll (by simp) _ h3.hll
            · subst en; exact newt lg (by simp) _ h3.hlg
            · subst en; exact newt lw (by simp) _ h3.hlw
            · subst en; exact newt lm (by simp) _ h3.hlm
          · rw [lets_app]
            refine List.nodup_append.mpr ⟨hnd, ?_, fun x hx y hy e => ?_⟩
            · show [ll, lg].Nodup
              simp only [List.nodup_cons, List.mem_cons, List.not_mem_nil, or_false, not_false_eq_true, List.nodup_nil, and_true]
              exact nd_ne h3.nd (i := 6) (j := 7) rfl rfl (by decide)
            · obtain ⟨o, ho⟩ := lets_some htd x hx
              have hy2 : y ∈ [ll, lg] := hy
              simp only [List.mem_cons, List.not_mem_nil, or_false] at hy2
              rw [e] at ho
              rcases hy2 with z | z
              · rw [z, h3.new ll (by simp)] at ho
                cases ho
              · rw [z, h3.new lg (by simp)] at ho
                cases ho
          · intro x hx
            rw [lets_app] at hx
            rcases List.mem_append.mp hx with hx | hx
            · exact hfr x hx
            · have hy2 : x ∈ [ll, lg] := hx
              simp only [List.mem_cons, List.not_mem_nil, or_false] at hy2
              rcases hy2 with z | z
              · rw [z]; exact s2.free (h3.new ll (by simp))
              · rw [z]; exact s2.free (h3.new lg (by simp))
      refine ⟨_, rfl, ax, _, _, _, rfl, rfl, hax2, w0, rfl, _, rfl, ?_⟩
      cases x with
      | bring l s => exact ⟨_, rfl, _, _, rfl, rfl, last _ rfl⟩
      | code p t s => exact last _ rfl
      | pass => exact last _ rfl
      | day => exact last _ rfl
      | power => exact last _ rfl
    · rintro σ H2 ⟨u, rfl, hp⟩
      rw [hlen, List.take_length] at hp
      refine ⟨_, rfl, _, rfl, by show 2 ≤ sizeLine; decide, fun p hpn => ?_⟩
      have hs2 := psame hp
      refine q _ p b sl ?_ upd_same (hs2.free hpn)
      obtain ⟨dx2, li2, dv2, ds2, dr2, hB, s2, ⟨ts, hts, htd, hnd, hfr⟩, hsl0⟩ := hp
      have old : ∀ c ∈ [b, li2, dv2, ds2, dr2], c ≠ p := fun c hc e => by
        rw [e] at hc
        simp only [List.mem_cons, List.not_mem_nil, or_false] at hc
        rcases hc with z | z | z | z | z
        · exact absurd (hB.hb.symm.trans (z ▸ hpn)) (by intro q; cases q)
        · exact absurd (hB.hli.symm.trans (z ▸ hpn)) (by intro q; cases q)
        · exact absurd (hB.hdv.symm.trans (z ▸ hpn)) (by intro q; cases q)
        · exact absurd (hB.hds.symm.trans (z ▸ hpn)) (by intro q; cases q)
        · exact absurd (hB.hdr.symm.trans (z ▸ hpn)) (by intro q; cases q)
      have hid : ∀ c o, hideF [b, li2, dv2, ds2, dr2] H2 c = some o → hideF [b, li2, dv2, ds2, dr2] (upd H2 p (.tup [.ref b, .ref sl])) c = some o := fun c o e => by
        have e2 := hide_same _ _ _ _ e
        exact hide_some (hide_in e) (by rw [upd_ne (ne_of_none e2 hpn)]; exact e2)
      refine ⟨dx2, li2, dv2, ds2, dr2, bxa_hide hB.nd (by rw [upd_ne (old b (by simp))]; exact hB.hb) (by rw [upd_ne (old li2 (by simp))]; exact hB.hli) (by rw [upd_ne (old dv2 (by simp))]; exact hB.hdv) (by rw [upd_ne (old ds2 (by simp))]; exact hB.hds) (by rw [upd_ne (old dr2 (by simp))]; exact hB.hdr), fun c o e => hid c o (s2 _ _ e), ⟨ts, hid _ _ hts, paired_map (fun z U _ hz => hz.same (fun c o _ e => hid c o e)) htd, hnd, hfr⟩, hsl0⟩
theorem c_played (T : Txt w K mg) : C8.Cal P w K mg base 7 "played" (sp_played K) [] := by
  obtain ⟨fd, F⟩ := T.f_played
  exact ⟨_, fd, _, _, ok_played T F, T.g_played, F.kp, F.bindsN (fun _ _ _ _ _ _ us hl => match us, hl with | [_, _], _ => rfl), .nil⟩
end
end K15

namespace K15
open PySem PySem.Spec PyProof.Rows L2 My
/-- a report as play tells it -/
def ItAt (H : Hp) (z : Addr × Addr × Addr) (U : ToldS) : Prop := H z.1 = some (.tup [.ref z.2.1, .bl U.opened, .ref z.2.2]) ∧ H z.2.1 = some (.lst (U.letters.map V.int)) ∧ H z.2.2 = some (.lst (U.got.map V.int))
/-- the list that play tells: all of it new, its lists apart -/
def RepAt (H0 H : Hp) (p : Addr) (Us : List ToldS) : Prop := ∃ rs : List (Addr × Addr × Addr), H p = some (.lst (rs.map fun z => V.ref z.1)) ∧ Paired (ItAt H) rs Us ∧ (lets rs).Nodup ∧ (∀ x ∈ lets rs, H0 x = none ∧ x ≠ p) ∧ H0 p = none
theorem paired_take {α β : Type} {F : α → β → Prop} : ∀ {l : List α} {m : List β} (n : Nat), Paired F l m → Paired F (l.take n) (m.take n)
  | _, _, 0, _ => .nil
  | _, _, _ + 1, .nil => .nil
  | _, _, n + 1, .cons r t => .cons r (paired_take n t)
theorem lets_mem {ts : List (Addr × Addr × Addr)} {z : Addr × Addr × Addr} (h : z ∈ ts) : z.2.1 ∈ lets ts ∧ z.2.2 ∈ lets ts := by
  unfold lets
  exact ⟨List.mem_flatMap.mpr ⟨z, h, by simp⟩, List.mem_flatMap.mpr ⟨z, h, by simp⟩⟩
theorem td_get {K : PySem.W.Frag} {H : Hp} {sl : Addr} {ts : List (Addr × Addr × Addr)} {Us : List ToldS} (h : Paired (TdAt K H sl) ts Us) {i : Nat} {y : V} (e : (ts.map fun z => V.ref z.1)[i]? = some y) : ∃ z U, ts[i]? = some z ∧ Us[i]? = some U ∧ y = .ref z.1 ∧ TdAt K H sl z U := by
  obtain ⟨z, hz, rfl⟩ := map_get e
  obtain ⟨U, hU, ht⟩ := paired_at h hz
  exact ⟨z, U, hz, hU, rfl, ht⟩
section
variable {P : Program} {w : World} {K : PySem.W.Frag} {mg : Str → Option Value} {base : Heap}
def sp_Told_report (K : PySem.W.Frag) : Sp := fun vs H Q _ => ∃ (t dt : Addr) (yb : Bool) (ll lg lw lm : Addr) (U : ToldS), vs = [.ref t] ∧ H t = some (.ins (He.ga K "Told") dt (tdf U yb ll lg lw lm)) ∧ ∀ p, H p = none → Q (.ref p) (upd H p (.tup [.ref ll, .bl U.opened, .ref lg]))
set_option maxHeartbeats 2000000 in
theorem ok_Told_report (T : Txt w K mg) {fd : FuncData} (F : FunD K d_Told_report.name d_Told_report.qual d_Told_report.params d_Told_report.body d_Told_report.scope (d_Told_report.dvs K) (d_Told_report.kws K) (He.fAd K d_Told_report.at_) fd) : FnOk P w K mg base C8.CX0 1 (He.fAd K d_Told_report.at_) fd ["self"] (sp_Told_report K) := by
  refine F.ok sc_Told_report (fun vs H Q E h => ?_) (fun cdv A outer s H vs Q E hr h => ?_)
  · obtain ⟨t, dt, yb, ll, lg, lw, lm, U, rfl, _⟩ := h
    rfl
  · have hu := L2.hu_of hr
    obtain ⟨t, dt, yb, ll, lg, lw, lm, U, rfl, h1, q⟩ := h
    refine ⟨_, (PSs.nox ((pss_one (ps_ret (pe_tup (pa_cons (My.pe_fldK (K := K) rfl (pv 0) rfl) (pa_cons (My.pe_fldK (K := K) rfl (pv 0) rfl) (pa_cons (My.pe_fldK (K := K) rfl (pv 0) rfl) pa_nil)))))))), ?_⟩
    exact ⟨_, rfl, t, _, dt, _, _, rfl, h1, T.cl_Told, T.no_Told_letters, rfl, _, rfl, t, _, dt, _, _, rfl, h1, T.cl_Told, T.no_Told_opened, rfl, _, rfl, t, _, dt, _, _, rfl, h1, T.cl_Told, T.no_Told_got, rfl, by show 3 ≤ sizeLine; decide, q⟩
theorem c_Told_report (T : Txt w K mg) : C8.Met P w K mg base 1 (He.ga K "Told") "report" (sp_Told_report K) [] := by
  obtain ⟨fd, F⟩ := T.f_Told_report
  exact ⟨_, fd, _, _, T.cl_Told, T.m_Told_report, ok_Told_report T F, F.bindsN (fun _ _ _ _ _ _ us hl => match us, hl with | [_], _ => rfl), .nil⟩
def sp_play (K : PySem.W.Frag) : Sp := fun vs H Q _ => ∃ (k a : Addr) (d : Int) (rs : List RuleL) (xs : List V) (ds : List Deed), vs = [.ref k, .ref a] ∧ BookAt K H k d rs ∧ GoodB rs ∧ SqL K H a xs ∧ DeedsAt K H xs ds ∧ Playable ds ∧ ds.length ≤ 50000 ∧
  ∀ H' p, Same H H' → RepAt H H' p (runF rs d ds).2.2 → Q (.ref p) H'
set_option maxHeartbeats 2000000 in
theorem ok_play (T : Txt w K mg) {fd : FuncData} (F : FunD K d_play.name d_play.qual d_play.params d_play.body d_play.scope (d_play.dvs K) (d_play.kws K) (He.fAd K d_play.at_) fd) : FnOk P w K mg base C8.CX0 8 (He.fAd K d_play.at_) fd ["book", "deeds"] (sp_play K) := by
  have c_Told_report := c_Told_report (P := P) (w := w) (base := base) T
  have c_played := c_played (P := P) (w := w) (base := base) T
  have c_check_playable := c_check_playable (P := P) (w := w) (base := base) T
  refine F.ok sc_play (fun vs H Q E h => ?_) (fun cdv A outer s H vs Q E hr h => ?_)
  · obtain ⟨k, a, d, rs, xs, ds, rfl, _⟩ := h
    rfl
  · have hu := L2.hu_of hr
    obtain ⟨k, a, d, rs, xs, ds, rfl, hk, hg, hS, hD, hP, hl, q⟩ := h
    refine ⟨_, (PSs.nox ((pss_cons (ps_expr (C8.pe_c c_check_playable hr (by decide) rfl (pa_cons (pv 1) pa_nil)))
  (pss_cons (ps_asg (C8.pe_c c_played hr (by decide) rfl (pa_cons (pv 0) (pa_cons (pv 1) pa_nil))) (My.pg_tupK (K := K) (n := 2) rfl rfl (pgs_cons (pg_name (i := 2) sc_play.nd rfl (by first | exact Or.inl rfl | exact Or.inr rfl)) (pgs_cons (pg_name (i := 3) sc_play.nd rfl (by first | exact Or.inl rfl | exact Or.inr rfl)) pgs_nil))))
  (pss_one (ps_ret (pe_lc (own := [("told", 4)]) (g := (gName 4)) (tt := tYes) (by rfl) sc_play.nd (My.pi_listK (K := K) rfl (pv 3)) (blkOk_by (N := N_play) (sc := defScope s_play) (by decide +kernel)) (fun _ _ _ _ _ => (pg_name (i := 4) sc_play.nd rfl (by first | exact Or.inl rfl | exact Or.inr rfl))) (fun _ _ _ _ _ => pts_nil) (fun _ _ _ _ _ => (C8.pe_mt0 c_Told_report hr (by decide) (pv 4)))))))))), ?_⟩
    refine ⟨_, rfl, a, xs, ds, rfl, hS, hD, hP, fun H1 s1 => ?_⟩
    refine ⟨_, rfl, _, rfl, k, a, d, rs, xs, ds, rfl, hk.same s1, hg, s1.seq hS, hD.same s1, hl, fun H2 p b sl hP2 hp hpn => ?_⟩
    obtain ⟨dx, li, dv, dsn, dr, hB, s2, ⟨ts, hts0, htd0, hnd, hfr⟩, hsl0⟩ := hP2
    have hh := hide_same [b, li, dv, dsn, dr] H2
    have hts := hh _ _ hts0
    have htd := paired_map (fun z U _ hz => TdAt.same (fun c o _ e => hh c o e) hz) htd0
    have sH : Same H H2 := s1.trans (s2.trans hh)
    refine ⟨p, _, rfl, SqT.of hp, rfl, _, _, rfl, _, _, rfl, rfl, ?_⟩
    refine ⟨_, rfl, sl, rfl, ⟨_, SqL.of hts⟩, fun D hD => lc_list (K := K) (a := sl) (xs := ts.map fun z => V.ref z.1)
      (fun i H' => Same H2 H' ∧ ∃ us : List (Addr × Addr × Addr), us.length = i ∧ H' D = some (.lst (us.map fun z => V.ref z.1)) ∧ Paired (ItAt H') us ((runF rs d ds).2.2.take i) ∧ lets us = lets (ts.take i)) ⟨same_new hD, [], rfl, upd_same, .nil, rfl⟩ (fun i H' _ z => SqL.of (z.1 _ _ hts)) ?_ ?_⟩
    · rintro i y H3 hi ⟨s3, us, hul, hD3, hup, hule⟩
      obtain ⟨z, U, hz, hU, rfl, ht⟩ := td_get htd hi
      obtain ⟨dt, yb, lw, lm, _, h1, h2, h3, h4, h5⟩ := ht.same (fun c o _ e => s3 c o e)
      have hlt : i < ts.length := (List.getElem?_eq_some_iff.mp hz).1
      have hlts : ts.length ≤ 50000 := by
        rw [htd.length]
        have := runF_len rs d ds
        omega
      refine ⟨rfl, ?_⟩
      refine ⟨_, rfl, z.1, dt, _, rfl, h1, rfl, z.1, dt, yb, _, _, lw, lm, U, rfl, h1, fun q hq => ?_⟩
      have nqD : q ≠ D := fun e => by rw [e, hD3] at hq; cases hq
      refine ⟨_, by rw [upd_ne nqD.symm]; exact hD3, by rw [List.length_map, hul]; exact lt_line (by omega), same_upd (s3.trans (same_new hq)) hD, us ++ [(q, z.2.1, z.2.2)], by rw [List.length_append, hul]; rfl, by rw [upd_same, List.map_append]; rfl, ?_, ?_⟩
      · have hold : ∀ c o, H3 c = some o → c ≠ D → (upd (upd H3 q (.tup [.ref z.2.1, .bl U.opened, .ref z.2.2])) D (.lst ((us.map fun z => V.ref z.1) ++ [.ref q]))) c = some o := fun c o e n => by
          rw [upd_ne n, upd_ne (ne_of_none e hq)]
          exact e
        have nD : ∀ {c : Addr} {o : HO}, H2 c = some o → c ≠ D := fun e => ne_of_none e hD
        rw [take_more hU]
        refine Paired.snoc (paired_map (fun x V hx hv => ?_) hup) ?_
        · obtain ⟨a1, a2, a3⟩ := hv
          have hx2 : x.2.1 ∈ lets (ts.take i) ∧ x.2.2 ∈ lets (ts.take i) := by rw [← hule]; exact lets_mem hx
          have live : ∀ c ∈ lets (ts.take i), c ≠ D := fun c hc => by
            obtain ⟨o, ho⟩ := lets_some htd c (by
              unfold lets at hc ⊢
              obtain ⟨w, hw, hw2⟩ := List.mem_flatMap.mp hc
              exact List.mem_flatMap.mpr ⟨w, List.mem_of_mem_take hw, hw2⟩)
            exact nD ho
          exact ⟨hold _ _ a1 (ne_of a1 hD3 (fun e => by cases e)), hold _ _ a2 (live _ hx2.1), hold _ _ a3 (live _ hx2.2)⟩
        · obtain ⟨dt0, yb0, lw0, lm0, _, g1, g2, g3, _⟩ := ht
          exact ⟨by rw [upd_ne nqD, upd_same], hold _ _ h2 (nD g2), hold _ _ h3 (nD g3)⟩
      · rw [take_more hz, lets_app, lets_app, hule]
        rfl
    · rintro H3 ⟨s3, us, hul, hD3, hup, hule⟩
      rw [List.length_map] at hul hup hule
      rw [List.take_length] at hule
      rw [htd.length, List.take_length] at hup
      refine q _ D (sH.trans s3) ⟨us, hD3, hup, by rw [hule]; exact hnd, fun x hx => ?_, sH.free hD⟩
      rw [hule] at hx
      obtain ⟨o, ho⟩ := lets_some htd x hx
      exact ⟨s1.free (hfr x hx), ne_of_none ho hD⟩
theorem c_play (T : Txt w K mg) : C8.Cal P w K mg base 8 "play" (sp_play K) [] := by
  obtain ⟨fd, F⟩ := T.f_play
  exact ⟨_, fd, _, _, ok_play T F, T.g_play, F.kp, F.bindsN (fun _ _ _ _ _ _ us hl => match us, hl with | [_, _], _ => rfl), .nil⟩
theorem k_play (T : Txt w K mg) : My.CalK2 P w K mg base 8 "play" (sp_play K) "book" "deeds" := by
  obtain ⟨fd, F⟩ := T.f_play
  exact ⟨_, fd, ok_play T F, T.g_play, F.kp, My.kw2_of F (fun _ _ _ _ _ _ _ _ => rfl)⟩
/-- how the box stands, as boxes tells it; ys: the valid ones in ascending order -/
def StdAt (H0 H : Hp) (p : Addr) (S : BoxS) (ys : List Int) : Prop := ∃ l1 l2, H p = some (.tup [.bl S.ajar, .ref l1, .str S.tf, .ref l2, oV S.age]) ∧ H l1 = some (.lst (S.inside.map V.int)) ∧ H l2 = some (.lst (ys.map V.int)) ∧ l1 ≠ l2 ∧ H0 l1 = none ∧ H0 l2 = none ∧ H0 p = none ∧ ys.Perm S.valid ∧ ys.Pairwise (· ≤ ·)
def sp_Box_stands (K : PySem.W.Frag) : Sp := fun vs H Q _ => ∃ (b dx li dv ds dr : Addr) (S : BoxS), vs = [.ref b] ∧ H b = some (.ins (He.ga K "Box") dx (bxf S li dv ds dr)) ∧ H li = some (.lst (S.inside.map V.int)) ∧ H dv = some (.dK (kvT S.valid)) ∧ S.valid.length ≤ 50000 ∧ ∀ H' p ys, Same H H' → StdAt H H' p S ys → Q (.ref p) H'
set_option maxHeartbeats 2000000 in
theorem ok_Box_stands (T : Txt w K mg) {fd : FuncData} (F : FunD K d_Box_stands.name d_Box_stands.qual d_Box_stands.params d_Box_stands.body d_Box_stands.scope (d_Box_stands.dvs K) (d_Box_stands.kws K) (He.fAd K d_Box_stands.at_) fd) : FnOk P w K mg base C8.CX0 1 (He.fAd K d_Box_stands.at_) fd ["self"] (sp_Box_stands K) := by
  refine F.ok sc_Box_stands (fun vs H Q E h => ?_) (fun cdv A outer s H vs Q E hr h => ?_)
  · obtain ⟨b, dx, li, dv, ds, dr, S, rfl, _⟩ := h
    rfl
  · have hu := L2.hu_of hr
    obtain ⟨b, dx, li, dv, ds, dr, S, rfl, hb, hli, hdv, h64, q⟩ := h
    refine ⟨_, (PSs.nox ((pss_one (ps_ret (pe_tup (pa_cons (My.pe_fldK (K := K) rfl (pv 0) rfl) (pa_cons (pe_callTy (My.list_ofK (K := K) rfl) (by rfl) T.list (by decide +kernel) (pa_cons (My.pe_fldK (K := K) rfl (pv 0) rfl) pa_nil)) (pa_cons (My.pe_fldK (K := K) rfl (pv 0) rfl) (pa_cons (pe_callB (My.sortedW rfl) (by rfl) T.sorted (by decide +kernel) (pa_cons (My.pe_fldK (K := K) rfl (pv 0) rfl) pa_nil)) (pa_cons (My.pe_fldK (K := K) rfl (pv 0) rfl) pa_nil)))))))))), ?_⟩
    refine ⟨_, rfl, b, _, dx, _, _, rfl, hb, T.cl_Box, T.no_Box_ajar, rfl, ?_⟩
    refine ⟨_, rfl, b, _, dx, _, _, rfl, hb, T.cl_Box, T.no_Box_inside, rfl, li, _, rfl, .inl (SqL.of hli), fun l1 hl1 => ?_⟩
    have up1 : ∀ {c : Addr} {o : HO}, H c = some o → (upd H l1 (.lst (S.inside.map V.int))) c = some o := fun e => by rw [upd_ne (ne_of_none e hl1)]; exact e
    refine ⟨_, rfl, b, _, dx, _, _, rfl, up1 hb, T.cl_Box, T.no_Box_taken_for, rfl, ?_⟩
    refine ⟨_, rfl, b, _, dx, _, _, rfl, up1 hb, T.cl_Box, T.no_Box_valid, rfl, dv, _, S.valid, rfl, .inl (up1 hdv), by unfold kvT; rw [List.map_map]; rfl, Nat.le_trans h64 (by decide), fun ys l2 hy1 hy2 hl2 => ?_⟩
    obtain ⟨n21, hl2'⟩ := up_none hl2
    refine ⟨_, rfl, b, _, dx, _, _, rfl, (by rw [upd_ne (ne_of_none (up1 hb) hl2)]; exact up1 hb), T.cl_Box, T.no_Box_age, rfl, by show 5 ≤ sizeLine; decide, fun r hr => ?_⟩
    obtain ⟨nr2, hr'⟩ := up_none hr
    obtain ⟨nr1, hr''⟩ := up_none hr'
    refine q _ r ys ((same_new hl1).trans ((same_new hl2).trans (same_new hr))) ⟨l1, l2, upd_same, ?_, ?_, n21.symm, hl1, hl2', hr'', hy1, hy2⟩
    · rw [upd_ne nr1.symm, upd_ne n21.symm, upd_same]
    · rw [upd_ne nr2.symm, upd_same]
theorem c_Box_stands (T : Txt w K mg) : C8.Met P w K mg base 1 (He.ga K "Box") "stands" (sp_Box_stands K) [] := by
  obtain ⟨fd, F⟩ := T.f_Box_stands
  exact ⟨_, fd, _, _, T.cl_Box, T.m_Box_stands, ok_Box_stands T F, F.bindsN (fun _ _ _ _ _ _ us hl => match us, hl with | [_], _ => rfl), .nil⟩
def sp_boxes (K : PySem.W.Frag) : Sp := fun vs H Q _ => ∃ (k a : Addr) (d : Int) (rs : List RuleL) (xs : List V) (ds : List Deed), vs = [.ref k, .ref a] ∧ BookAt K H k d rs ∧ GoodB rs ∧ SqL K H a xs ∧ DeedsAt K H xs ds ∧ Playable ds ∧ ds.length ≤ 50000 ∧ (runF rs d ds).2.1.valid.length ≤ 50000 ∧
  ∀ H' p ys, Same H H' → StdAt H H' p (runF rs d ds).2.1 ys → Q (.ref p) H'
set_option maxHeartbeats 2000000 in
theorem ok_boxes (T : Txt w K mg) {fd : FuncData} (F : FunD K d_boxes.name d_boxes.qual d_boxes.params d_boxes.body d_boxes.scope (d_boxes.dvs K) (d_boxes.kws K) (He.fAd K d_boxes.at_) fd) : FnOk P w K mg base C8.CX0 8 (He.fAd K d_boxes.at_) fd ["book", "deeds"] (sp_boxes K) := by
  have c_Box_stands := c_Box_stands (P := P) (w := w) (base := base) T
  have c_played := c_played (P := P) (w := w) (base := base) T
  have c_check_playable := c_check_playable (P := P) (w := w) (base := base) T
  refine F.ok sc_boxes (fun vs H Q E h => ?_) (fun cdv A outer s H vs Q E hr h => ?_)
  · obtain ⟨k, a, d, rs, xs, ds, rfl, _⟩ := h
    rfl
  · have hu := L2.hu_of hr
    obtain ⟨k, a, d, rs, xs, ds, rfl, hk, hg, hS, hD, hP, hl, h64, q⟩ := h
    refine ⟨_, (PSs.nox ((pss_cons (ps_expr (C8.pe_c c_check_playable hr (by decide) rfl (pa_cons (pv 1) pa_nil)))
  (pss_cons (ps_asg (C8.pe_c c_played hr (by decide) rfl (pa_cons (pv 0) (pa_cons (pv 1) pa_nil))) (My.pg_tupK (K := K) (n := 2) rfl rfl (pgs_cons (pg_name (i := 2) sc_boxes.nd rfl (by first | exact Or.inl rfl | exact Or.inr rfl)) (pgs_cons (pg_name (i := 3) sc_boxes.nd rfl (by first | exact Or.inl rfl | exact Or.inr rfl)) pgs_nil))))
  (pss_one (ps_ret (C8.pe_mt0 c_Box_stands hr (by decide) (pv 2)))))))), ?_⟩
    refine ⟨_, rfl, a, xs, ds, rfl, hS, hD, hP, fun H1 s1 => ?_⟩
    refine ⟨_, rfl, _, rfl, k, a, d, rs, xs, ds, rfl, hk.same s1, hg, s1.seq hS, hD.same s1, hl, fun H2 p b sl hP2 hp hpn => ?_⟩
    obtain ⟨dx, li, dv, dsn, dr, hB, s2, _, hsl0⟩ := hP2
    have hh := hide_same [b, li, dv, dsn, dr] H2
    have sH : Same H H2 := s1.trans (s2.trans hh)
    refine ⟨p, _, rfl, SqT.of hp, rfl, _, _, rfl, _, _, rfl, rfl, ?_⟩
    refine ⟨_, rfl, b, dx, _, rfl, hB.hb, rfl, b, dx, li, dv, dsn, dr, _, rfl, hB.hb, hB.hli, hB.hdv, h64, fun H3 p2 ys s3 hst => ?_⟩
    obtain ⟨l1, l2, c1, c2, c3, c4, c5, c6, c7, c8, c9⟩ := hst
    exact q _ _ ys (sH.trans s3) ⟨l1, l2, c1, c2, c3, c4, sH.free c5, sH.free c6, sH.free c7, c8, c9⟩
theorem c_boxes (T : Txt w K mg) : C8.Cal P w K mg base 8 "boxes" (sp_boxes K) [] := by
  obtain ⟨fd, F⟩ := T.f_boxes
  exact ⟨_, fd, _, _, ok_boxes T F, T.g_boxes, F.kp, F.bindsN (fun _ _ _ _ _ _ us hl => match us, hl with | [_, _], _ => rfl), .nil⟩
theorem k_boxes (T : Txt w K mg) : My.CalK2 P w K mg base 8 "boxes" (sp_boxes K) "book" "deeds" := by
  obtain ⟨fd, F⟩ := T.f_boxes
  exact ⟨_, fd, ok_boxes T F, T.g_boxes, F.kp, My.kw2_of F (fun _ _ _ _ _ _ _ _ => rfl)⟩
end
end K15

namespace K15
open PySem PySem.Spec PyProof.Rows L2 My
/-! ### lists, tuples and pots -/
theorem rawS {H H' : Hp} {a b : Addr} {n : Nat} {o : HO} (s : But [a] H H') (h : SpringAt H a n) (t : H b = some o) (no : ∀ i r, o ≠ .lst (.int i :: r)) : H' b = some o := s _ _ (by simpa using (h.ne t no).symm) t
theorem tupU {K : PySem.W.Frag} {H : Hp} {D b : Addr} {l xs : List V} {o : HO} (h : H D = some (.lst l)) (t : SqT K H b xs) : SqT K (upd H D o) b xs := by
  rcases t with (t | ⟨o, t⟩) | t
  · exact .inl (.inl (by rw [upd_ne (ne_of t h (fun z => by cases z))]; exact t))
  · exact .inl (.inr ⟨o, by rw [upd_ne (ne_of t h (fun z => by cases z))]; exact t⟩)
  · exact .inr t
/-- a tuple stands where only a list changes -/
theorem tup_but {K : PySem.W.Frag} {H H' : Hp} {L b : Addr} {l xs : List V} (s : But [L] H H') (h : H L = some (.lst l)) (t : SqT K H b xs) : SqT K H' b xs := by
  rcases t with (t | ⟨o, t⟩) | t
  · exact .inl (.inl (s _ _ (by simpa using (ne_of t h (fun z => by cases z))) t))
  · exact .inl (.inr ⟨o, s _ _ (by simpa using (ne_of t h (fun z => by cases z))) t⟩)
  · exact .inr t
theorem paired_app {α β : Type} {F : α → β → Prop} : ∀ {l : List α} {m : List β} {l2 : List α} {m2 : List β}, Paired F l m → Paired F l2 m2 → Paired F (l ++ l2) (m ++ m2)
  | _, _, _, _, .nil, h => h
  | _, _, _, _, .cons r t, h => .cons r (paired_app t h)
theorem paired_drop {α β : Type} {F : α → β → Prop} : ∀ {l : List α} {m : List β} (n : Nat), Paired F l m → Paired F (l.drop n) (m.drop n)
  | _, _, 0, h => h
  | _, _, _ + 1, .nil => .nil
  | _, _, n + 1, .cons _ t => paired_drop n t
theorem paired_flat {α β : Type} {F : α → β → Prop} {l : List α} {m : List β} (h : Paired F l m) : ∀ n : Nat, Paired F (List.replicate n l).flatten (List.replicate n m).flatten
  | 0 => .nil
  | n + 1 => by
    rw [List.replicate_succ, List.replicate_succ, List.flatten_cons, List.flatten_cons]
    exact paired_app h (paired_flat h n)
theorem paired_rev {α β : Type} {F : α → β → Prop} : ∀ {l : List α} {m : List β}, Paired F l m → Paired F l.reverse m.reverse
  | _, _, .nil => .nil
  | _, _, .cons r t => by
    rw [List.reverse_cons, List.reverse_cons]
    exact paired_app (paired_rev t) (.cons r .nil)
end K15

namespace K15
open PySem PySem.Spec PyProof.Rows L2 My
/-! ### pots: where a law's draws come from -/
section
variable {P : Program} {w : World} {K : PySem.W.Frag} {mg : Str → Option Value} {base : Heap}
def sp_law_dip (K : PySem.W.Frag) : Sp := fun vs H Q _ => ∃ (a : Addr) (n : Nat) (many : Int), vs = [.ref a, .int many] ∧ SpringAt H a n ∧ n < 2 ^ 100 ∧ 0 < many ∧ many < 2 ^ 200 ∧
  ∀ H' k, But [a] H H' → SpringAt H' a (n + 1) → 0 ≤ k → k < many → Q (.int k) H'
set_option maxHeartbeats 2000000 in
theorem ok_law_dip (T : Txt w K mg) {fd : FuncData} (F : FunD K d_law_dip.name d_law_dip.qual d_law_dip.params d_law_dip.body d_law_dip.scope (d_law_dip.dvs K) (d_law_dip.kws K) (He.fAd K d_law_dip.at_) fd) : FnOk P w K mg base C8.CX0 1 (He.fAd K d_law_dip.at_) fd ["pot", "many"] (sp_law_dip K) := by
  refine F.ok sc_law_dip (fun vs H Q E h => ?_) (fun cdv A outer s H vs Q E hr h => ?_)
  · obtain ⟨a, n, many, rfl, _⟩ := h
    rfl
  · have hu := L2.hu_of hr
    obtain ⟨a, n, many, rfl, ⟨w0, w1, w2, ha, hw1, hw2, hw3⟩, hn, hm0, hm1, q⟩ := h
    refine ⟨_, (PSs.nox ((pss_cons (ps_if (pt_cmpR op_gt (pe_ix (My.ix_listK (K := K) rfl) (pv 0) pe_int (fun _ _ => rfl)) pe_int (nomark _))
  (pss_cons (ps_set (i := 2) sc_law_dip.nd rfl (by first | exact Or.inl rfl | exact Or.inr rfl) (pe_op op_mod (pe_callTy call_int1 (by rfl) T.int (by decide +kernel) (pa_cons (pe_ix (My.ix_listK (K := K) rfl) (pv 0) pe_int (fun _ _ => rfl)) pa_nil)) (pv 1)))
  (pss_cons (ps_asg (pe_op op_fdivW (pe_ix (My.ix_listK (K := K) rfl) (pv 0) pe_int (fun _ _ => rfl)) (pv 1)) (pg_sub (pv 0) pe_int set_list))
  (pss_one (ps_ret (pv 2)))))
  pss_nil)
  (pss_cons (ps_asg (pe_op op_add (pe_ix (My.ix_listK (K := K) rfl) (pv 0) pe_int (fun _ _ => rfl)) pe_int) (pg_sub (pv 0) pe_int set_list))
  (pss_cons (ps_set (i := 3) sc_law_dip.nd rfl (by first | exact Or.inl rfl | exact Or.inr rfl) (pe_op op_mod (pe_callTy call_int1 (by rfl) T.int (by decide +kernel) (pa_cons (pe_op My.op_powW (pe_op op_add (pe_ix (My.ix_listK (K := K) rfl) (pv 0) pe_int (fun _ _ => rfl)) (pe_op op_mulW pe_int (pe_ix (My.ix_listK (K := K) rfl) (pv 0) pe_int (fun _ _ => rfl)))) pe_int) pa_nil)) (pe_op op_add (pe_op My.op_powW pe_int pe_int) pe_int)))
  (pss_cons (ps_set (i := 3) sc_law_dip.nd rfl (by first | exact Or.inl rfl | exact Or.inr rfl) (pe_op op_mod (pe_callTy call_int1 (by rfl) T.int (by decide +kernel) (pa_cons (pe_op My.op_powW (pe_op op_add (pv 3) (pe_op op_mulW pe_int (pe_ix (My.ix_listK (K := K) rfl) (pv 0) pe_int (fun _ _ => rfl)))) pe_int) pa_nil)) (pe_op op_add (pe_op My.op_powW pe_int pe_int) pe_int)))
  (pss_one (ps_ret (pe_op op_mod (pe_callTy call_int1 (by rfl) T.int (by decide +kernel) (pa_cons (pe_op op_fdivW (pv 3) (pe_op My.op_powW pe_int pe_int)) pa_nil)) (pv 1)))))))))), ?_⟩
    have hmW : CDivW w0 many := wide_div (b := 200) hm0 (by omega) (by decide) (by decide)
    refine ⟨_, rfl, a, _, _, _, rfl, rfl, SqL.of ha, rfl, _, _, rfl, rfl, _, rfl, ?_⟩
    refine L2.ite2 (fun c => ?_) (fun c => ?_)
    · refine ⟨_, rfl, a, _, _, _, rfl, rfl, SqL.of ha, rfl, .inl ⟨_, rfl, _, rfl, _, _, rfl, rfl, hm0, ?_⟩⟩
      refine ⟨_, rfl, a, _, _, _, rfl, rfl, SqL.of ha, rfl, _, rfl, _, _, rfl, rfl, hmW, _, rfl, a, _, 0, 0, rfl, rfl, ha, rfl, ?_⟩
      refine ⟨_, rfl, q _ _ ((But.refl _ _).put (.inr (by simp))) ⟨_, w1, w2, upd_same, hw1, hw2, by omega⟩ (Int.emod_nonneg _ (by omega)) (Int.emod_lt_of_pos _ hm0)⟩
    · have b2 : (w2 + 1).natAbs < 2 ^ 101 := by
        have : (2 : Nat) ^ 101 = 2 ^ 100 + 2 ^ 100 := by decide
        omega
      have m1 : (86028121 : Int).natAbs < 2 ^ 40 := by decide
      have m2 : (179424673 : Int).natAbs < 2 ^ 40 := by decide
      have m41 : (0 : Int) < 10 ^ (41 : Int).toNat + 9 := by decide
      have m39 : (0 : Int) < 10 ^ (39 : Int).toNat + 57 := by decide
      have q1 : (86028121 * (w2 + 1)).natAbs < 2 ^ 200 := by
        have : (2 : Nat) ^ 200 > 86028121 * 2 ^ 101 := by decide
        omega
      have q2 : (179424673 * (w2 + 1)).natAbs < 2 ^ 200 := by
        have : (2 : Nat) ^ 200 > 179424673 * 2 ^ 101 := by decide
        omega
      have c1 : CMulW 86028121 (w2 + 1) := wide_mul m1 b2 (by decide) (by decide) (by decide)
      have c2 : CMulW 179424673 (w2 + 1) := wide_mul m2 b2 (by decide) (by decide) (by decide)
      refine ⟨_, rfl, a, _, _, _, rfl, rfl, SqL.of ha, rfl, _, _, rfl, rfl, _, rfl, a, _, 2, 2, rfl, rfl, ha, rfl, ?_⟩
      have ha2 : upd H a (.lst [.int w0, .int w1, .int (w2 + 1)]) a = some (.lst [.int w0, .int w1, .int (w2 + 1)]) := upd_same
      refine ⟨_, rfl, a, _, _, _, rfl, rfl, SqL.of ha2, rfl, ?_⟩
      refine ⟨_, rfl, a, _, _, _, rfl, rfl, SqL.of ha2, rfl, _, _, rfl, rfl, c1, _, _, rfl, rfl, ?_⟩
      refine ⟨_, _, rfl, rfl, powW (add_lt hw1 q1) (by decide) (by decide) (by decide), .inl ⟨_, rfl, ?_⟩⟩
      refine ⟨_, _, rfl, rfl, ten_pow (by decide) (by decide), _, _, rfl, rfl, _, _, rfl, rfl, m41, ?_⟩
      have e1 := emod_lt2 (x := (w1 + 86028121 * (w2 + 1)) ^ (3 : Int).toNat) (m := 10 ^ (41 : Int).toNat + 9) (k := 200) (by decide) (by decide)
      refine ⟨_, rfl, ?_⟩
      refine ⟨_, rfl, a, _, _, _, rfl, rfl, SqL.of ha2, rfl, _, _, rfl, rfl, c2, _, _, rfl, rfl, ?_⟩
      refine ⟨_, _, rfl, rfl, powW (add_lt e1 q2) (by decide) (by decide) (by decide), .inl ⟨_, rfl, ?_⟩⟩
      refine ⟨_, _, rfl, rfl, ten_pow (by decide) (by decide), _, _, rfl, rfl, _, _, rfl, rfl, m39, ?_⟩
      refine ⟨_, rfl, _, _, rfl, rfl, ten_pow (by decide) (by decide), _, _, rfl, rfl, wide_div (b := 100) (by decide) (by decide) (by decide) (by decide), .inl ⟨_, rfl, ?_⟩⟩
      refine ⟨_, rfl, _, _, rfl, rfl, hm0, ?_⟩
      exact q _ _ ((But.refl _ _).put (.inr (by simp))) ⟨_, w1, w2 + 1, upd_same, hw1, by omega, by omega⟩ (Int.emod_nonneg _ (by omega)) (Int.emod_lt_of_pos _ hm0)
theorem c_law_dip (T : Txt w K mg) : C8.Cal P w K mg base 1 "_law_dip" (sp_law_dip K) [] := by
  obtain ⟨fd, F⟩ := T.f_law_dip
  exact ⟨_, fd, _, _, ok_law_dip T F, T.g_law_dip, F.kp, F.bindsN (fun _ _ _ _ _ _ us hl => match us, hl with | [_, _], _ => rfl), .nil⟩
def sp_law_pot (K : PySem.W.Frag) : Sp := fun vs H Q _ => ∃ (a : Addr) (ns : List Int) (k : Int), vs = [.ref a, .int k] ∧ SqL K H a (ns.map V.int) ∧ 0 ≤ k ∧ k < 100 ∧
  ∀ H' p, H p = none → Same H H' → SpringAt H' p 0 → Q (.ref p) H'
set_option maxHeartbeats 2000000 in
theorem ok_law_pot (T : Txt w K mg) {fd : FuncData} (F : FunD K d_law_pot.name d_law_pot.qual d_law_pot.params d_law_pot.body d_law_pot.scope (d_law_pot.dvs K) (d_law_pot.kws K) (He.fAd K d_law_pot.at_) fd) : FnOk P w K mg base C8.CX0 1 (He.fAd K d_law_pot.at_) fd ["script", "k"] (sp_law_pot K) := by
  refine F.ok sc_law_pot (fun vs H Q E h => ?_) (fun cdv A outer s H vs Q E hr h => ?_)
  · obtain ⟨a, ns, k, rfl, _⟩ := h
    rfl
  · have hu := L2.hu_of hr
    obtain ⟨a, ns, k, rfl, hS, hk0, hk1, q⟩ := h
    refine ⟨_, (PSs.nox ((pss_cons (ps_set (i := 2) sc_law_pot.nd rfl (by first | exact Or.inl rfl | exact Or.inr rfl) pe_int)
  (pss_cons (ps_if (pt_cmpR op_lt (pv 1) (pe_callB (My.len_seqK (K := K) rfl) (by rfl) T.len (by decide +kernel) (pa_cons (pv 0) pa_nil)) (nomark _))
  (pss_one (ps_set (i := 2) sc_law_pot.nd rfl (by first | exact Or.inl rfl | exact Or.inr rfl) (pe_callB call_abs (by rfl) T.abs (by decide +kernel) (pa_cons (pe_callTy call_int1 (by rfl) T.int (by decide +kernel) (pa_cons (pe_ix (My.ix_listK (K := K) rfl) (pv 0) (pv 1) (fun _ _ => rfl)) pa_nil)) pa_nil))))
  pss_nil)
  (pss_one (ps_ret (pe_lst (pa_cons (pe_callB (call_max2 rfl) (by rfl) T.max (by decide +kernel) (pa_cons pe_int (pa_cons (pe_op op_sub (pv 2) (pe_op My.op_powW pe_int pe_int)) pa_nil))) (pa_cons (pe_op op_add (pe_op op_mod (pe_callTy call_int1 (by rfl) T.int (by decide +kernel) (pa_cons (pv 2) pa_nil)) (pe_op op_add (pe_op My.op_powW pe_int pe_int) pe_int)) (pe_op op_mulW pe_int (pv 1))) (pa_cons pe_int pa_nil)))))))))), ?_⟩
    have fin : ∀ cell : Int, (∀ p, H p = none → ∀ w0, Q (.ref p) (upd H p (.lst [.int w0, .int (cell % (10 ^ (33 : Int).toNat + 33) + 524309 * k), .int 0]))) := by
      intro cell p hp w0
      refine q _ p hp (same_new hp) ⟨_, _, _, upd_same, ?_, by decide, by decide⟩
      have e1 := emod_lt2 (x := cell) (m := 10 ^ (33 : Int).toNat + 33) (k := 120) (by decide) (by decide)
      have e2 : (524309 * k).natAbs < 2 ^ 120 := by
        have : (2 : Nat) ^ 120 > 300000000 := by decide
        omega
      exact two_le (add_lt e1 e2) (by decide)
    have m33 : (0 : Int) < 10 ^ (33 : Int).toNat + 33 := by decide
    have mk : CMulW 524309 k := by
      refine wide_mul (a := 40) (b := 40) (by decide) ?_ (by decide) (by decide) (by decide)
      have : (2 : Nat) ^ 40 > 1000 := by decide
      omega
    have rest : ∀ cell : Int, tRet
            (tLst
              (tCons
                (tCB (fun xs H Q => ∃ i j, xs = [V.int i, V.int j] ∧ Q (V.int (if j > i then j else i)) H)
                  (tCons (tC (V.int 0))
                    (tCons
                      (tOp (rI0 fun i j => V.int (i - j)) (tVar 2)
                        (tOp (rI CPowW fun i j => V.int (i ^ j.toNat)) (tC (V.int 10)) (tC (V.int 18))))
                      tNil)))
                (tCons
                  (tOp (rI0 fun i j => V.int (i + j))
                    (tOp (rI (fun x j => 0 < j) fun i j => V.int (i % j))
                      (tCB
                        (fun xs H Q =>
                          (∃ i, xs = [V.int i] ∧ Q (V.int i) H) ∨
                            ∃ k, xs = [V.bl k] ∧ Q (V.int (if k = true then 1 else 0)) H)
                        (tCons (tVar 2) tNil))
                      (tOp (rI0 fun i j => V.int (i + j))
                        (tOp (rI CPowW fun i j => V.int (i ^ j.toNat)) (tC (V.int 10)) (tC (V.int 33))) (tC (V.int 33))))
                    (tOp (rI CMulW fun i j => V.int (i * j)) (tC (V.int 524309)) (tVar 1)))
                  (tCons (tC (V.int 0)) tNil)))) { nx := fun x H' => Q V.non H', rt := Q } [some (.ref a), some (.int k), some (.int cell)] H := by
      intro cell
      refine ⟨_, rfl, _, _, rfl, rfl, ten_pow (by decide) (by decide), _, _, rfl, rfl, _, _, rfl, ?_⟩
      refine ⟨_, rfl, .inl ⟨_, rfl, _, _, rfl, rfl, ten_pow (by decide) (by decide), _, _, rfl, rfl, _, _, rfl, rfl, m33, ?_⟩⟩
      exact ⟨_, rfl, _, _, rfl, rfl, mk, _, _, rfl, rfl, by show 3 ≤ sizeLine; decide, fun p hp => fin _ p hp _⟩
    refine ⟨_, rfl, _, rfl, a, _, rfl, .inl hS, _, _, rfl, rfl, _, rfl, ?_⟩
    rw [List.length_map]
    refine L2.ite2 (fun c => ?_) (fun c => ?_)
    · have hlt : k < (ns.length : Int) := of_decide_eq_true c
      obtain ⟨j, rfl⟩ : ∃ j : Nat, k = (j : Int) := ⟨k.toNat, by omega⟩
      have hj : j < ns.length := by omega
      refine ⟨_, rfl, _, rfl, a, _, _, _, rfl, rfl, hS, atI_nat (by rw [List.getElem?_map, List.getElem?_eq_getElem hj]; rfl), .inl ⟨_, rfl, ?_⟩⟩
      refine ⟨_, rfl, ?_⟩
      exact rest _
    · exact rest 0
theorem c_law_pot (T : Txt w K mg) : C8.Cal P w K mg base 1 "_law_pot" (sp_law_pot K) [] := by
  obtain ⟨fd, F⟩ := T.f_law_pot
  exact ⟨_, fd, _, _, ok_law_pot T F, T.g_law_pot, F.kp, F.bindsN (fun _ _ _ _ _ _ us hl => match us, hl with | [_, _], _ => rfl), .nil⟩
end
end K15

namespace K15
open PySem PySem.Spec PyProof.Rows L2 My
/-! ### alike: two values that lay the same data -/
def Sized : Nat → PyData → Prop
  | 0, _ => False
  | n + 1, .list ds => ds.length ≤ 100000 ∧ ∀ e ∈ ds, Sized n e
  | n + 1, .tuple ds => ds.length ≤ 100000 ∧ ∀ e ∈ ds, Sized n e
  | _ + 1, .dict _ => False
  | _ + 1, _ => True
theorem dpall_len {K : PySem.W.Frag} {H : Hp} : ∀ {xs : List V} {ds : List PyData}, DpAll K H xs ds → xs.length = ds.length
  | _, _, .nil => rfl
  | _, _, .cons _ t => congrArg (· + 1) (dpall_len t)
theorem dpall_at {K : PySem.W.Frag} {H : Hp} : ∀ {xs : List V} {ds : List PyData} {i : Nat} {d : PyData}, DpAll K H xs ds → ds[i]? = some d → ∃ v, xs[i]? = some v ∧ Dp K H v d
  | _, _, 0, _, .cons h _, e => ⟨_, rfl, by cases e; exact h⟩
  | _, _, i + 1, _, .cons _ t, e => dpall_at (i := i) t e
mutual
theorem dp_same {K : PySem.W.Frag} {H H' : Hp} (s : Same H H') : ∀ {v : V} {d : PyData}, Dp K H v d → Dp K H' v d
  | _, _, .non => .non
  | _, _, .bl b => .bl b
  | _, _, .int i => .int i
  | _, _, .str x => .str x
  | _, _, .lst h t => .lst (s.seq h) (dpall_same s t)
  | _, _, .tup h t => .tup (same_tup s h) (dpall_same s t)
theorem dpall_same {K : PySem.W.Frag} {H H' : Hp} (s : Same H H') : ∀ {vs : List V} {ds : List PyData}, DpAll K H vs ds → DpAll K H' vs ds
  | _, _, .nil => .nil
  | _, _, .cons h t => .cons (dp_same s h) (dpall_same s t)
end
section
variable {P : Program} {w : World} {K : PySem.W.Frag} {mg : Str → Option Value} {base : Heap}
def spr_law_alike (K : PySem.W.Frag) (n : Nat) : Sp := fun vs H Q _ => ∃ (x y : V) (d : PyData), vs = [x, y] ∧ Dp K H x d ∧ Dp K H y d ∧ Sized n d ∧ ∀ H', Same H H' → Q (.bl true) H'
theorem no_law_alike (K : PySem.W.Frag) {vs : List V} {H : Hp} {Q : VK} {E : XK} : ¬ spr_law_alike K 0 vs H Q E := fun ⟨_, _, d, _, _, _, h, _⟩ => by
  cases d <;> exact h
def sp_law_alike (K : PySem.W.Frag) : Sp := spr_law_alike K 5
set_option maxHeartbeats 2000000 in
theorem okr_law_alike (T : Txt w K mg) {rn : Nat} (c_law_alike : C8.Cal P w K mg base rn "_law_alike" (spr_law_alike K rn) []) {fd : FuncData} (F : FunD K d_law_alike.name d_law_alike.qual d_law_alike.params d_law_alike.body d_law_alike.scope (d_law_alike.dvs K) (d_law_alike.kws K) (He.fAd K d_law_alike.at_) fd) : FnOk P w K mg base C8.CX0 (rn + 1) (He.fAd K d_law_alike.at_) fd ["found", "due"] (spr_law_alike K (rn + 1)) := by
  refine F.ok sc_law_alike (fun vs H Q E h => ?_) (fun cdv A outer s H vs Q E hr h => ?_)
  · obtain ⟨x, y, d, rfl, _⟩ := h
    rfl
  · have hu := L2.hu_of hr
    obtain ⟨x, y, d, rfl, hx, hy, hz, q⟩ := h
    refine ⟨_, (PSs.nox ((pss_cons (ps_if (PW.pt (pw_or (pt_cmpR op_ne (pe_callB (My.isiK (K := K) rfl) (by rfl) T.isinstance (by decide +kernel) (pa_cons (pv 0) (pa_cons (pe_bltn (v := .ty "tuple") (u := .type "tuple") rfl T.tuple (by decide +kernel) rfl) pa_nil))) (pe_callB (My.isiK (K := K) rfl) (by rfl) T.isinstance (by decide +kernel) (pa_cons (pv 1) (pa_cons (pe_bltn (v := .ty "tuple") (u := .type "tuple") rfl T.tuple (by decide +kernel) rfl) pa_nil))) (nomark _)) (pw_or1 (pt_cmpR op_ne (pe_callB (My.isiK (K := K) rfl) (by rfl) T.isinstance (by decide +kernel) (pa_cons (pv 0) (pa_cons (pe_bltn (v := .ty "list") (u := .type "list") rfl T.list (by decide +kernel) rfl) pa_nil))) (pe_callB (My.isiK (K := K) rfl) (by rfl) T.isinstance (by decide +kernel) (pa_cons (pv 1) (pa_cons (pe_bltn (v := .ty "list") (u := .type "list") rfl T.list (by decide +kernel) rfl) pa_nil))) (nomark _)))))
  (pss_one (ps_ret pe_bl))
  pss_nil)
  (pss_cons (ps_if (pt_val (pe_callB (My.isiTK (K := K) rfl) (by rfl) T.isinstance (by decide +kernel) (pa_cons (pv 1) (pa_cons (pe_tup (pa_cons (pe_bltn (v := .ty "tuple") (u := .type "tuple") rfl T.tuple (by decide +kernel) rfl) (pa_cons (pe_bltn (v := .ty "list") (u := .type "list") rfl T.list (by decide +kernel) rfl) pa_nil))) pa_nil))))
  (pss_cons (ps_if (pt_cmpR op_ne (pe_callB (My.len_seqK (K := K) rfl) (by rfl) T.len (by decide +kernel) (pa_cons (pv 0) pa_nil)) (pe_callB (My.len_seqK (K := K) rfl) (by rfl) T.len (by decide +kernel) (pa_cons (pv 1) pa_nil)) (nomark _))
  (pss_one (ps_ret pe_bl))
  pss_nil)
  (pss_one (ps_ret (pe_cmpR (My.eqDK (K := K) rfl hr.units) (pe_lc (own := [("k", 2)]) (g := (gName 2)) (by rfl) sc_law_alike.nd (pi_range1 (by rfl) T.range (pa_cons (pe_callB (My.len_seqK (K := K) rfl) (by rfl) T.len (by decide +kernel) (pa_cons (pv 1) pa_nil)) pa_nil)) (blkOk_by (N := N_law_alike) (sc := defScope s_law_alike) (by decide +kernel)) (fun _ _ _ _ _ => (pg_name (i := 2) sc_law_alike.nd rfl (by first | exact Or.inl rfl | exact Or.inr rfl))) (fun _ _ _ _ _ => (pts_one (pt_not (pt_val (C8.pe_c c_law_alike hr (Nat.le_refl _) rfl (pa_cons (pe_ix (My.ix_bothK (K := K) rfl) (pv 0) (pv 2) (fun _ _ => rfl)) (pa_cons (pe_ix (My.ix_bothK (K := K) rfl) (pv 1) (pv 2) (fun _ _ => rfl)) pa_nil))))))) (fun _ _ _ _ _ => (pv 2))) (pe_lst pa_nil) (nomark _)))))
  pss_nil)
  (pss_cons (ps_if (PW.pt (pw_or (pt_cmpR op_ne (pe_callB (My.isiK (K := K) rfl) (by rfl) T.isinstance (by decide +kernel) (pa_cons (pv 0) (pa_cons (pe_bltn (v := .ty "bool") (u := .type "bool") rfl T.bool (by decide +kernel) rfl) pa_nil))) (pe_callB (My.isiK (K := K) rfl) (by rfl) T.isinstance (by decide +kernel) (pa_cons (pv 1) (pa_cons (pe_bltn (v := .ty "bool") (u := .type "bool") rfl T.bool (by decide +kernel) rfl) pa_nil))) (nomark _)) (pw_or1 (pt_cmpR op_ne (pe_callB (My.isiK (K := K) rfl) (by rfl) T.isinstance (by decide +kernel) (pa_cons (pv 0) (pa_cons (pe_bltn (v := .ty "str") (u := .type "str") rfl T.str (by decide +kernel) rfl) pa_nil))) (pe_callB (My.isiK (K := K) rfl) (by rfl) T.isinstance (by decide +kernel) (pa_cons (pv 1) (pa_cons (pe_bltn (v := .ty "str") (u := .type "str") rfl T.str (by decide +kernel) rfl) pa_nil))) (nomark _)))))
  (pss_one (ps_ret pe_bl))
  pss_nil)
  (pss_one (ps_ret (pe_cmpR op_eq (pv 0) (pv 1) (nomark _))))))))), ?_⟩
    have flat : ∀ (v : V) (t : String) (b1 b2 : Bool), x = v → y = v → (∀ HH, TyX K HH v (.type t)) → PySem.W.kitOne K (.type t) (.type "tuple") = some false → PySem.W.kitOne K (.type t) (.type "list") = some false → PySem.W.kitAny K (.type t) [.type "tuple", .type "list"] = some false → PySem.W.kitOne K (.type t) (.type "bool") = some b1 → PySem.W.kitOne K (.type t) (.type "str") = some b2 → scal v v = true →
        tSeq
        (tIfS
          (tOr
            (tTest
              (tOp rNe (tCB (rIsi K) (tCons (tVar 0) (tCons (tC (V.ty "tuple")) tNil)))
                (tCB (rIsi K) (tCons (tVar 1) (tCons (tC (V.ty "tuple")) tNil)))))
            (tTest
              (tOp rNe (tCB (rIsi K) (tCons (tVar 0) (tCons (tC (V.ty "list")) tNil)))
                (tCB (rIsi K) (tCons (tVar 1) (tCons (tC (V.ty "list")) tNil))))))
          (tRet (tC (V.bl false))) tNext)
        (tSeq
          (tIfS
            (tB
              (tCB (rIsiT K)
                (tCons (tVar 1) (tCons (tTup (tCons (tC (V.ty "tuple")) (tCons (tC (V.ty "list")) tNil))) tNil))))
            (tSeq
              (tIfS (tTest (tOp rNe (tCB (rLenQ K) (tCons (tVar 0) tNil)) (tCB (rLenQ K) (tCons (tVar 1) tNil))))
                (tRet (tC (V.bl false))) tNext)
              (tRet
                (tOp (rEqD K)
                  (tLc (iRng1 (tCons (tCB (rLenQ K) (tCons (tVar 1) tNil)) tNil)) (gName 2)
                    (tNot
                      (tB
                        (tCall (spr_law_alike K rn) [] C8.E0
                          (tCons (tOp (rIxB K) (tVar 0) (tVar 2)) (tCons (tOp (rIxB K) (tVar 1) (tVar 2)) tNil)))))
                    (tVar 2) (List.map (fun x => x.snd) [("k", 2)]))
                  (tLst tNil))))
            tNext)
          (tSeq
            (tIfS
              (tOr
                (tTest
                  (tOp rNe (tCB (rIsi K) (tCons (tVar 0) (tCons (tC (V.ty "bool")) tNil)))
                    (tCB (rIsi K) (tCons (tVar 1) (tCons (tC (V.ty "bool")) tNil)))))
                (tTest
                  (tOp rNe (tCB (rIsi K) (tCons (tVar 0) (tCons (tC (V.ty "str")) tNil)))
                    (tCB (rIsi K) (tCons (tVar 1) (tCons (tC (V.ty "str")) tNil))))))
              (tRet (tC (V.bl false))) tNext)
            (tRet (tOp rEq (tVar 0) (tVar 1)))))
        { nx := fun x H' => Q V.non H', rt := Q } (L2.start N_law_alike [x, y]) H := by
      intro v t b1 b2 ex ey ty k1 k2 k3 k4 k5 sc
      subst ex
      subst ey
      refine ⟨_, rfl, _, _, _, _, _, rfl, .ty "tuple", ty _, k1, _, rfl, _, _, _, _, _, rfl, .ty "tuple", ty _, k1, rfl, _, rfl, ?_⟩
      refine ⟨_, rfl, _, _, _, _, _, rfl, .ty "list", ty _, k2, _, rfl, _, _, _, _, _, rfl, .ty "list", ty _, k2, rfl, _, rfl, ?_⟩
      refine ⟨_, rfl, by show 2 ≤ sizeLine; decide, fun tt htt => ⟨_, tt, _, _, _, _, rfl, upd_same, .cons (.ty _) (.cons (.ty _) .nil), ty _, k3, false, rfl, ?_⟩⟩
      refine ⟨_, rfl, _, _, _, _, _, rfl, .ty "bool", ty _, k4, _, rfl, _, _, _, _, _, rfl, .ty "bool", ty _, k4, rfl, _, rfl, ?_⟩
      rw [decide_eq_true (show V.bl b1 = V.bl b1 from rfl)]
      refine ⟨_, rfl, _, _, _, _, _, rfl, .ty "str", ty _, k5, _, rfl, _, _, _, _, _, rfl, .ty "str", ty _, k5, rfl, _, rfl, ?_⟩
      rw [decide_eq_true (show V.bl b2 = V.bl b2 from rfl)]
      refine ⟨_, rfl, _, rfl, sc, ?_⟩
      rw [decide_eq_true rfl]
      exact q _ (same_new htt)
    have kA : ∀ t : String, PySem.W.kitOne K (.type t) (.type "tuple") = some false → PySem.W.kitOne K (.type t) (.type "list") = some false → PySem.W.kitAny K (.type t) [.type "tuple", .type "list"] = some false := fun t k1 k2 => kitAny_cons k1 (fun _ => kitAny_cons k2 (fun _ => kitAny_nil) (fun z => by cases z)) (fun z => by cases z)
    have kz : ∀ (p : Prop), some true = some false → p := fun p z => by cases z
    have seq : ∀ (H1 : Hp) (a b : Addr) (xs ys : List V) (ds : List PyData), Same H H1 → (SqL K H1 a xs ∨ SqT K H1 a xs) → (SqL K H1 b ys ∨ SqT K H1 b ys) → DpAll K H xs ds → DpAll K H ys ds → ds.length ≤ 100000 → (∀ e ∈ ds, Sized rn e) →
        tOp (rEqD K)
                  (tLc (iRng1 (tCons (tCB (rLenQ K) (tCons (tVar 1) tNil)) tNil)) (gName 2)
                    (tNot
                      (tB
                        (tCall (spr_law_alike K rn) [] C8.E0
                          (tCons (tOp (rIxB K) (tVar 0) (tVar 2)) (tCons (tOp (rIxB K) (tVar 1) (tVar 2)) tNil)))))
                    (tVar 2) (List.map (fun x => x.snd) [("k", 2)]))
                  (tLst tNil) [some (.ref a), some (.ref b), none] H1 Q := by
      intro H1 a b xs ys ds s1 hS hT hA hB hl hd
      have lx := dpall_len hA
      have ly := dpall_len hB
      refine ⟨_, rfl, b, ys, rfl, hT, ((ds.length : Nat) : Int), by rw [ly], by omega, by omega, fun D hD => ?_⟩
      refine lc_range (lo := 0) (n := ((ds.length : Nat) : Int).toNat) (fun i H' => Same H1 H' ∧ H' D = some (.lst [])) ⟨same_new hD, upd_same⟩ ?_ ?_
      · rintro i H2 hi ⟨s2, hD2⟩
        have hi2 : i < ds.length := by omega
        have hdi := List.getElem?_eq_getElem hi2
        obtain ⟨v1, hv1, d1⟩ := dpall_at hA hdi
        obtain ⟨v2, hv2, d2⟩ := dpall_at hB hdi
        have ss := s1.trans s2
        refine ⟨rfl, ?_⟩
        have e0 : (0 : Int) + (i : Int) = (i : Int) := by omega
        have ix : ∀ {c : Addr} {zs : List V} {v : V} {Q2 : VK}, (SqL K H1 c zs ∨ SqT K H1 c zs) → zs[i]? = some v → Q2 v H2 → rIxB K (.ref c) (.int (0 + (i : Int))) H2 Q2 := fun {c zs v Q2} hc hv q2 => by
          rcases hc with hc | hc
          · exact .inl ⟨c, zs, (i : Int), v, rfl, by rw [e0], s2.seq hc, atI_nat hv, q2⟩
          · exact .inr ⟨c, zs, (i : Int), v, rfl, by rw [e0], same_tup s2 hc, atI_nat hv, q2⟩
        refine ⟨_, rfl, _, rfl, ix hS hv1 ⟨_, rfl, _, rfl, ix hT hv2 ⟨v1, v2, ds[i], rfl, dp_same ss d1, dp_same ss d2, hd _ (List.getElem_mem _), fun H3 s3 => ?_⟩⟩⟩
        exact ⟨true, rfl, s2.trans s3, s3 _ _ hD2⟩
      · rintro H2 ⟨s2, hD2⟩
        refine ⟨Nat.zero_le _, fun e he => ?_⟩
        refine ⟨.list [], .list [], .lst (SqL.of (by rw [upd_ne (ne_of_none hD2 he)]; exact hD2)) .nil, .lst (SqL.of upd_same) .nil, by decide +kernel, by decide +kernel, ?_⟩
        exact q _ ((s1.trans s2).trans (same_new he))
    cases d with
    | none =>
      cases hx
      cases hy
      exact flat .non "NoneType" false false rfl rfl (fun _ => .base .non) (L2.kit_ty (by decide +kernel)) (L2.kit_ty (by decide +kernel)) (kA _ (L2.kit_ty (by decide +kernel)) (L2.kit_ty (by decide +kernel))) (L2.kit_ty (by decide +kernel)) (L2.kit_ty (by decide +kernel)) rfl
    | bool b =>
      cases hx
      cases hy
      exact flat (.bl b) "bool" true false rfl rfl (fun _ => .base (.bl b)) (L2.kit_ty (by decide +kernel)) (L2.kit_ty (by decide +kernel)) (kA _ (L2.kit_ty (by decide +kernel)) (L2.kit_ty (by decide +kernel))) (L2.kit_ty (by decide +kernel)) (L2.kit_ty (by decide +kernel)) rfl
    | int b =>
      cases hx
      cases hy
      exact flat (.int b) "int" false false rfl rfl (fun _ => .base (.int b)) (L2.kit_ty (by decide +kernel)) (L2.kit_ty (by decide +kernel)) (kA _ (L2.kit_ty (by decide +kernel)) (L2.kit_ty (by decide +kernel))) (L2.kit_ty (by decide +kernel)) (L2.kit_ty (by decide +kernel)) rfl
    | str b =>
      cases hx
      cases hy
      exact flat (.str b) "str" false true rfl rfl (fun _ => .base (.str b)) (L2.kit_ty (by decide +kernel)) (L2.kit_ty (by decide +kernel)) (kA _ (L2.kit_ty (by decide +kernel)) (L2.kit_ty (by decide +kernel))) (L2.kit_ty (by decide +kernel)) (L2.kit_ty (by decide +kernel)) rfl
    | dict kvs => exact absurd hz (fun z => z)
    | list ds =>
      cases hx with
      | @lst a xs _ hS hA =>
      cases hy with
      | @lst b ys _ hT hB =>
      obtain ⟨hl, hd⟩ := hz
      have lx := dpall_len hA
      have ly := dpall_len hB
      refine ⟨_, rfl, _, _, _, _, false, rfl, .ty "tuple", tyx_lst hS, L2.kit_ty (by decide +kernel), _, rfl, _, _, _, _, false, rfl, .ty "tuple", tyx_lst hT, L2.kit_ty (by decide +kernel), rfl, _, rfl, ?_⟩
      refine ⟨_, rfl, _, _, _, _, true, rfl, .ty "list", tyx_lst hS, L2.kit_ty (by decide +kernel), _, rfl, _, _, _, _, true, rfl, .ty "list", tyx_lst hT, L2.kit_ty (by decide +kernel), rfl, _, rfl, ?_⟩
      refine ⟨_, rfl, by show 2 ≤ sizeLine; decide, fun tt htt => ⟨_, tt, _, _, _, _, rfl, upd_same, .cons (.ty _) (.cons (.ty _) .nil), tyx_lst ((same_new htt).seq hT), kitAny_cons (b := false) (r := true) (L2.kit_ty (by decide +kernel)) (fun _ => kitAny_cons (b := true) (L2.kit_ty (by decide +kernel)) (fun z => by cases z) (fun _ => rfl)) (fun z => by cases z), true, rfl, ?_⟩⟩
      have s1 := same_new (o := .tup [V.ty "tuple", .ty "list"]) htt
      refine ⟨_, rfl, a, _, rfl, .inl (s1.seq hS), _, rfl, b, _, rfl, .inl (s1.seq hT), rfl, _, rfl, ?_⟩
      rw [lx, ly, decide_eq_true rfl]
      exact seq _ a b xs ys ds s1 (.inl (s1.seq hS)) (.inl (s1.seq hT)) hA hB hl hd
    | tuple ds =>
      cases hx with
      | @tup a xs _ hS hA =>
      cases hy with
      | @tup b ys _ hT hB =>
      obtain ⟨hl, hd⟩ := hz
      have lx := dpall_len hA
      have ly := dpall_len hB
      refine ⟨_, rfl, _, _, _, _, true, rfl, .ty "tuple", tyx_tup hS, L2.kit_ty (by decide +kernel), _, rfl, _, _, _, _, true, rfl, .ty "tuple", tyx_tup hT, L2.kit_ty (by decide +kernel), rfl, _, rfl, ?_⟩
      refine ⟨_, rfl, _, _, _, _, false, rfl, .ty "list", tyx_tup hS, L2.kit_ty (by decide +kernel), _, rfl, _, _, _, _, false, rfl, .ty "list", tyx_tup hT, L2.kit_ty (by decide +kernel), rfl, _, rfl, ?_⟩
      refine ⟨_, rfl, by show 2 ≤ sizeLine; decide, fun tt htt => ⟨_, tt, _, _, _, _, rfl, upd_same, .cons (.ty _) (.cons (.ty _) .nil), tyx_tup (same_tup (same_new htt) hT), kitAny_cons (b := true) (L2.kit_ty (by decide +kernel)) (fun z => by cases z) (fun _ => rfl), true, rfl, ?_⟩⟩
      have s1 := same_new (o := .tup [V.ty "tuple", .ty "list"]) htt
      refine ⟨_, rfl, a, _, rfl, .inr (same_tup s1 hS), _, rfl, b, _, rfl, .inr (same_tup s1 hT), rfl, _, rfl, ?_⟩
      rw [lx, ly, decide_eq_true rfl]
      exact seq _ a b xs ys ds s1 (.inr (same_tup s1 hS)) (.inr (same_tup s1 hT)) hA hB hl hd
theorem cr_law_alike (T : Txt w K mg) : ∀ rn : Nat, C8.Cal P w K mg base rn "_law_alike" (spr_law_alike K rn) []
  | 0 => by
    obtain ⟨fd, F⟩ := T.f_law_alike
    exact ⟨_, fd, ["found", "due"], _, ⟨fun vs H Q E h => absurd h (no_law_alike K), fun A outer s H args us vs Q E _ _ _ _ h => absurd h (no_law_alike K)⟩, T.g_law_alike, F.kp, F.bindsN (fun _ _ _ _ _ _ us hl => match us, hl with | [_, _], _ => rfl), .nil⟩
  | rn + 1 => by
    obtain ⟨fd, F⟩ := T.f_law_alike
    exact ⟨_, fd, _, _, okr_law_alike T (cr_law_alike T rn) F, T.g_law_alike, F.kp, F.bindsN (fun _ _ _ _ _ _ us hl => match us, hl with | [_, _], _ => rfl), .nil⟩
theorem c_law_alike (T : Txt w K mg) : C8.Cal P w K mg base 5 "_law_alike" (sp_law_alike K) [] := cr_law_alike T 5
end
end K15

namespace K15
open PySem PySem.Spec PyProof.Rows L2 My
/-! ### data (as k20/P16, for laws without reports) -/
theorem dp_flatInts (K : PySem.W.Frag) (H : Hp) : ∀ l : List Int, DpAll K H (l.map V.int) (l.map PyData.int)
  | [] => .nil
  | a :: l => .cons (.int a) (dp_flatInts K H l)
theorem lay_ints : ∀ l : List Int, PyData.canLayAll0 (l.map PyData.int) = true
  | [] => rfl
  | a :: l => by
    show (true && PyData.canLayAll0 (l.map PyData.int)) = true
    rw [lay_ints l]
    rfl
theorem dep_ints : ∀ l : List Int, PyData.depthAll (l.map PyData.int) = 0
  | [] => rfl
  | a :: l => by
    show max 0 (PyData.depthAll (l.map PyData.int)) = 0
    rw [dep_ints l]
    rfl
/-- data that may be compared: laid out, of small depth -/
structure Sm (n : Nat) (d : PyData) : Prop where
  lay : d.canLay0 = true
  dep : d.depth ≤ n
theorem Sm.shaped {n : Nat} {d : PyData} (h : Sm n d) (e : n ≤ 64) : SeqAt.shaped d = true := Bool.and_eq_true_iff.mpr ⟨h.lay, decide_eq_true (Nat.le_trans h.dep e)⟩
theorem Sm.refl {n : Nat} {d : PyData} (h : Sm n d) : PyData.eqv d d = true := SeqAt.eqv_refl d h.lay
theorem sm_int (i : Int) : Sm 0 (.int i) := ⟨rfl, Nat.le_refl _⟩
theorem sm_bool (i : Bool) : Sm 0 (.bool i) := ⟨rfl, Nat.le_refl _⟩
theorem sm_none : Sm 0 .none := ⟨rfl, Nat.le_refl _⟩
theorem lay_all : ∀ {ds : List PyData} {n : Nat}, (∀ d ∈ ds, Sm n d) → PyData.canLayAll0 ds = true ∧ PyData.depthAll ds ≤ n
  | [], n, _ => ⟨rfl, Nat.zero_le _⟩
  | d :: ds, n, h => by
    obtain ⟨h1, h2⟩ := lay_all (ds := ds) fun x hx => h x (List.mem_cons_of_mem _ hx)
    have h3 := h d (List.mem_cons_self ..)
    refine ⟨Bool.and_eq_true_iff.mpr ⟨h3.lay, h1⟩, ?_⟩
    show max d.depth (PyData.depthAll ds) ≤ n
    exact Nat.max_le.mpr ⟨h3.dep, h2⟩
theorem sm_list {ds : List PyData} {n : Nat} (h : ∀ d ∈ ds, Sm n d) : Sm (n + 1) (.list ds) := ⟨(lay_all h).1, Nat.succ_le_succ (lay_all h).2⟩
theorem sm_tuple {ds : List PyData} {n : Nat} (h : ∀ d ∈ ds, Sm n d) : Sm (n + 1) (.tuple ds) := ⟨(lay_all h).1, Nat.succ_le_succ (lay_all h).2⟩
theorem Sm.mono {n m : Nat} {d : PyData} (h : Sm n d) (e : n ≤ m) : Sm m d := ⟨h.lay, Nat.le_trans h.dep e⟩
theorem sm_ints (l : List Int) : Sm 1 (.list (l.map PyData.int)) := sm_list fun d hd => by
  obtain ⟨i, _, rfl⟩ := List.mem_map.mp hd
  exact sm_int i
theorem sok {x : Str} (h : PyData.canLay0 (.str x) = true) : Sm 0 (.str x) := ⟨h, Nat.le_refl _⟩
def deedD : Deed → PyData
  | .bring l s => .tuple [.str "bring", .bool l, .bool s]
  | .code p t s => .tuple [.str "code", .int p, .bool t, .bool s]
  | .pass => .tuple [.str "pass"]
  | .day => .tuple [.str "day"]
  | .power => .tuple [.str "power"]
theorem sm_deed (d : Deed) : Sm 1 (deedD d) := by
  cases d with
  | bring l s =>
    refine sm_tuple fun d hd => ?_
    simp only [List.mem_cons, List.not_mem_nil, or_false] at hd
    rcases hd with rfl | rfl | rfl
    · exact sok (by decide +kernel)
    · exact sm_bool _
    · exact sm_bool _
  | code p t s =>
    refine sm_tuple fun d hd => ?_
    simp only [List.mem_cons, List.not_mem_nil, or_false] at hd
    rcases hd with rfl | rfl | rfl | rfl
    · exact sok (by decide +kernel)
    · exact sm_int _
    · exact sm_bool _
    · exact sm_bool _
  | _ =>
    refine sm_tuple fun d hd => ?_
    simp only [List.mem_cons, List.not_mem_nil, or_false] at hd
    rcases hd with rfl
    exact sok (by decide +kernel)
theorem dp_deed {K : PySem.W.Frag} {H : Hp} {v : V} {d : Deed} (h : DeedAt K H v d) : Dp K H v (deedD d) := by
  obtain ⟨a, rfl, h⟩ := h
  cases d with
  | bring l s => exact .tup h (.cons (.str _) (.cons (.bl _) (.cons (.bl _) .nil)))
  | code p t s => exact .tup h (.cons (.str _) (.cons (.int _) (.cons (.bl _) (.cons (.bl _) .nil))))
  | pass => exact .tup h (.cons (.str _) .nil)
  | day => exact .tup h (.cons (.str _) .nil)
  | power => exact .tup h (.cons (.str _) .nil)
theorem dp_deeds {K : PySem.W.Frag} {H : Hp} : ∀ {xs : List V} {ds : List Deed}, DeedsAt K H xs ds → DpAll K H xs (ds.map deedD)
  | _, _, .nil => .nil
  | _, _, .cons r t => .cons (dp_deed r) (dp_deeds t)
theorem sm_deeds (ds : List Deed) : Sm 2 (.list (ds.map deedD)) := sm_list fun d hd => by
  obtain ⟨i, _, rfl⟩ := List.mem_map.mp hd
  exact sm_deed i
theorem nilD {K : PySem.W.Frag} {H : Hp} {a : Addr} (h : H a = some (.lst [])) : Dp K H (.ref a) (.list []) := .lst (SqL.of h) .nil
theorem sm_nil : Sm 1 (.list []) := sm_list fun d hd => by cases hd
end K15

namespace K15
open PySem PySem.Spec PyProof.Rows L2 My
/-! ### numbers and lengths of texts -/
def numS (p : Int) : Str := Str.ofString (toString p)
theorem len_tl (x : Str) : x.length = (TL.tl x).length := by
  show x.cps.size = _
  rw [← Array.length_toList]
theorem len_of (s : String) : (Str.ofString s).length = s.length := by
  rw [len_tl, TL.tl_ofString, List.length_map, String.length_toList]
theorem num_len {p : Int} (h : 1 ≤ p ∧ p ≤ 1000000000) : (numS p).length ≤ 11 := by
  unfold numS
  rw [len_of]
  exact int_text_length_le10 (k := 10) (by decide) (by have : (10 : Nat) ^ 10 = 10000000000 := by decide
                                                       omega)
theorem num_log {p : Int} (h : 1 ≤ p ∧ p ≤ 1000000000) : p.natAbs.log2 < 1920 := by
  have h1 : p.natAbs < 2 ^ 40 := by
    have : (2 : Nat) ^ 40 > 1000000000 := by decide
    omega
  have : p.natAbs.log2 < 40 := (Nat.log2_lt (by omega)).mpr h1
  omega
theorem app_len {x y : Str} (a b : Nat) (h1 : x.length ≤ a) (h2 : y.length ≤ b) : (x ++ y).length ≤ a + b := by
  rw [len_tl] at *
  rw [TL.tl_append, List.length_append]
  omega
theorem cat_ok {x y : Str} (a b : Nat) (h1 : x.length ≤ a) (h2 : y.length ≤ b) (h : a + b ≤ 1000000 := by decide) : x.length + y.length ≤ sizeLine := Nat.le_of_lt (lt_line (by omega))
end K15

namespace K15
open PySem PySem.Spec PyProof.Rows L2 My
/-! ### the text of deeds -/
def layS (l : Bool) : Str := if l = true then "lay" else "bare"
def takeS (l : Bool) : Str := if l = true then "take" else "leave"
def shutS (l : Bool) : Str := if l = true then "shut" else "ajar"
def lineF : Deed → Str
  | .bring l s => Txt.join " " ["bring", layS l, shutS s]
  | .code p t s => Txt.join " " ["code", numS p, takeS t, shutS s]
  | .pass => "pass"
  | .day => "day"
  | .power => "power"
def textF (ds : List Deed) : Str := Txt.join "\n" (ds.map lineF)
theorem lay_len (l : Bool) : (layS l).length ≤ 4 := by cases l <;> decide +kernel
theorem take_len (l : Bool) : (takeS l).length ≤ 5 := by cases l <;> decide +kernel
theorem shut_len (l : Bool) : (shutS l).length ≤ 4 := by cases l <;> decide +kernel
theorem tl_join3 (a b c d : Str) : TL.tl (Txt.join a [b, c, d]) = TL.tl b ++ (TL.tl a ++ (TL.tl c ++ (TL.tl a ++ TL.tl d))) := by
  rw [TL.join_eq, TL.tl_join]
  rfl
theorem tl_join4 (a b c d e : Str) : TL.tl (Txt.join a [b, c, d, e]) = TL.tl b ++ (TL.tl a ++ (TL.tl c ++ (TL.tl a ++ (TL.tl d ++ (TL.tl a ++ TL.tl e))))) := by
  rw [TL.join_eq, TL.tl_join]
  rfl
theorem line_len {d : Deed} (h : d.Ok) : (lineF d).length ≤ 40 := by
  cases d with
  | bring l s =>
    have h1 := lay_len l
    have h2 := shut_len s
    show (Txt.join " " ["bring", layS l, shutS s]).length ≤ 40
    rw [len_tl] at *
    rw [tl_join3]
    simp only [List.length_append]
    have e1 : (TL.tl ("bring" : Str)).length = 5 := by decide +kernel
    have e2 : (TL.tl (" " : Str)).length = 1 := by decide +kernel
    omega
  | code p t s =>
    have h1 := num_len h
    have h2 := shut_len s
    have h3 := take_len t
    show (Txt.join " " ["code", numS p, takeS t, shutS s]).length ≤ 40
    rw [len_tl] at *
    rw [tl_join4]
    simp only [List.length_append]
    have e1 : (TL.tl ("code" : Str)).length = 4 := by decide +kernel
    have e2 : (TL.tl (" " : Str)).length = 1 := by decide +kernel
    omega
  | pass => decide +kernel
  | day => decide +kernel
  | power => decide +kernel
theorem sum_lines : ∀ {ds : List Deed}, (∀ d ∈ ds, d.Ok) → ((ds.map lineF).map (·.length)).sum ≤ 40 * ds.length
  | [], _ => Nat.le_refl _
  | d :: ds, h => by
    have h1 := line_len (h d (List.mem_cons_self ..))
    have h2 := sum_lines (ds := ds) fun x hx => h x (List.mem_cons_of_mem _ hx)
    show (lineF d).length + ((ds.map lineF).map (·.length)).sum ≤ 40 * (ds.length + 1)
    omega
section
variable {P : Program} {w : World} {K : PySem.W.Frag} {mg : Str → Option Value} {base : Heap}
def sp_deed_line (K : PySem.W.Frag) : Sp := fun vs H Q _ => ∃ (a : Addr) (d : Deed), vs = [.ref a] ∧ SqT K H a d.vs ∧ d.Ok ∧ ∀ H', Same H H' → Q (.str (lineF d)) H'
set_option maxHeartbeats 2000000 in
theorem ok_deed_line (T : Txt w K mg) {fd : FuncData} (F : FunD K d_deed_line.name d_deed_line.qual d_deed_line.params d_deed_line.body d_deed_line.scope (d_deed_line.dvs K) (d_deed_line.kws K) (He.fAd K d_deed_line.at_) fd) : FnOk P w K mg base C8.CX0 1 (He.fAd K d_deed_line.at_) fd ["deed"] (sp_deed_line K) := by
  refine F.ok sc_deed_line (fun vs H Q E h => ?_) (fun cdv A outer s H vs Q E hr h => ?_)
  · obtain ⟨a, d, rfl, _⟩ := h
    rfl
  · have hu := L2.hu_of hr
    obtain ⟨a, d, rfl, hS, hok, q⟩ := h
    refine ⟨_, (PSs.nox ((pss_cons (ps_set (i := 1) sc_deed_line.nd rfl (by first | exact Or.inl rfl | exact Or.inr rfl) (pe_ix (My.ix_tupK (K := K) rfl) (pv 0) pe_int (fun _ _ => rfl)))
  (pss_cons (ps_if (pt_cmpR op_eq (pv 1) pe_str (nomark _))
  (pss_one (ps_ret (My.pe_joinK (K := K) rfl pe_str (pe_lst (pa_cons (pv 1) (pa_cons (pe_ifExp (pt_val (pe_ix (My.ix_tupK (K := K) rfl) (pv 0) pe_int (fun _ _ => rfl))) pe_str pe_str) (pa_cons (pe_ifExp (pt_val (pe_ix (My.ix_tupK (K := K) rfl) (pv 0) pe_int (fun _ _ => rfl))) pe_str pe_str) pa_nil)))))))
  pss_nil)
  (pss_cons (ps_if (pt_cmpR op_eq (pv 1) pe_str (nomark _))
  (pss_one (ps_ret (My.pe_joinK (K := K) rfl pe_str (pe_lst (pa_cons (pv 1) (pa_cons (pe_callTy call_str_int (by rfl) T.str (by decide +kernel) (pa_cons (pe_ix (My.ix_tupK (K := K) rfl) (pv 0) pe_int (fun _ _ => rfl)) pa_nil)) (pa_cons (pe_ifExp (pt_val (pe_ix (My.ix_tupK (K := K) rfl) (pv 0) pe_int (fun _ _ => rfl))) pe_str pe_str) (pa_cons (pe_ifExp (pt_val (pe_ix (My.ix_tupK (K := K) rfl) (pv 0) pe_int (fun _ _ => rfl))) pe_str pe_str) pa_nil))))))))
  pss_nil)
  (pss_one (ps_ret (pv 1)))))))), ?_⟩
    have w0 : atI d.vs 0 = some (.str d.w) := by cases d <;> rfl
    refine ⟨_, rfl, a, _, 0, _, rfl, rfl, hS, w0, ?_⟩
    refine ⟨_, rfl, rfl, _, rfl, ?_⟩
    cases d with
    | bring l s =>
      have fin : ∀ x y : Str, x = layS l → y = shutS s → (3 ≤ sizeLine) ∧ ∀ p, H p = none → ∃ a p_1, ∃ ys : List Str, (V.str " " : V) = .str a ∧ ([V.ref p] : List V) = [.ref p_1] ∧ (SqL K (upd H p (.lst [.str "bring", .str x, .str y])) p_1 (ys.map V.str) ∨ SqT K (upd H p (.lst [.str "bring", .str x, .str y])) p_1 (ys.map V.str)) ∧ (ys.map (·.length)).sum + ys.length * a.length ≤ 16777216 ∧ Q (.str (Txt.join a ys)) (upd H p (.lst [.str "bring", .str x, .str y])) := by
        rintro x y rfl rfl
        refine ⟨by decide, fun p hp => ⟨" ", p, ["bring", layS l, shutS s], rfl, rfl, .inl (SqL.of upd_same), ?_, q _ (same_new hp)⟩⟩
        have h1 := lay_len l
        have h2 := shut_len s
        have e1 : ("bring" : Str).length = 5 := by decide +kernel
        have e2 : (" " : Str).length = 1 := by decide +kernel
        show (("bring" : Str).length + ((layS l).length + ((shutS s).length + 0))) + 3 * (" " : Str).length ≤ _
        omega
      refine ⟨⟨_, rfl⟩, _, rfl, _, rfl, a, _, 1, _, rfl, rfl, hS, rfl, l, rfl, ?_⟩
      cases l with
      | true =>
        refine ⟨_, rfl, a, _, 2, _, rfl, rfl, hS, rfl, s, rfl, ?_⟩
        cases s with
        | true => exact fin _ _ rfl rfl
        | false => exact fin _ _ rfl rfl
      | false =>
        refine ⟨_, rfl, a, _, 2, _, rfl, rfl, hS, rfl, s, rfl, ?_⟩
        cases s with
        | true => exact fin _ _ rfl rfl
        | false => exact fin _ _ rfl rfl
    | code p t s =>
      have fin : ∀ x y : Str, x = takeS t → y = shutS s → (4 ≤ sizeLine) ∧ ∀ r, H r = none → ∃ a p_1, ∃ ys : List Str, (V.str " " : V) = .str a ∧ ([V.ref r] : List V) = [.ref p_1] ∧ (SqL K (upd H r (.lst [.str "code", .str (numS p), .str x, .str y])) p_1 (ys.map V.str) ∨ SqT K (upd H r (.lst [.str "code", .str (numS p), .str x, .str y])) p_1 (ys.map V.str)) ∧ (ys.map (·.length)).sum + ys.length * a.length ≤ 16777216 ∧ Q (.str (Txt.join a ys)) (upd H r (.lst [.str "code", .str (numS p), .str x, .str y])) := by
        rintro x y rfl rfl
        refine ⟨by decide, fun r hr => ⟨" ", r, ["code", numS p, takeS t, shutS s], rfl, rfl, .inl (SqL.of upd_same), ?_, q _ (same_new hr)⟩⟩
        have h0 := num_len hok
        have h1 := take_len t
        have h2 := shut_len s
        have e1 : ("code" : Str).length = 4 := by decide +kernel
        have e2 : (" " : Str).length = 1 := by decide +kernel
        show (("code" : Str).length + ((numS p).length + ((takeS t).length + ((shutS s).length + 0)))) + 4 * (" " : Str).length ≤ _
        omega
      refine ⟨_, rfl, rfl, _, rfl, ?_⟩
      refine ⟨⟨_, rfl⟩, _, rfl, _, rfl, a, _, 1, _, rfl, rfl, hS, rfl, p, rfl, num_log hok, _, rfl, a, _, 2, _, rfl, rfl, hS, rfl, t, rfl, ?_⟩
      cases t with
      | true =>
        refine ⟨_, rfl, a, _, 3, _, rfl, rfl, hS, rfl, s, rfl, ?_⟩
        cases s with
        | true => exact fin _ _ rfl rfl
        | false => exact fin _ _ rfl rfl
      | false =>
        refine ⟨_, rfl, a, _, 3, _, rfl, rfl, hS, rfl, s, rfl, ?_⟩
        cases s with
        | true => exact fin _ _ rfl rfl
        | false => exact fin _ _ rfl rfl
    | pass => exact ⟨_, rfl, rfl, _, rfl, _, rfl, q _ (Same.refl _)⟩
    | day => exact ⟨_, rfl, rfl, _, rfl, _, rfl, q _ (Same.refl _)⟩
    | power => exact ⟨_, rfl, rfl, _, rfl, _, rfl, q _ (Same.refl _)⟩
theorem c_deed_line (T : Txt w K mg) : C8.Cal P w K mg base 1 "deed_line" (sp_deed_line K) [] := by
  obtain ⟨fd, F⟩ := T.f_deed_line
  exact ⟨_, fd, _, _, ok_deed_line T F, T.g_deed_line, F.kp, F.bindsN (fun _ _ _ _ _ _ us hl => match us, hl with | [_], _ => rfl), .nil⟩
def sp_deeds_text (K : PySem.W.Frag) : Sp := fun vs H Q _ => ∃ (a : Addr) (xs : List V) (ds : List Deed), vs = [.ref a] ∧ SqL K H a xs ∧ DeedsAt K H xs ds ∧ (∀ d ∈ ds, d.Ok) ∧ ds.length ≤ 5000 ∧ ∀ H', Same H H' → Q (.str (textF ds)) H'
set_option maxHeartbeats 2000000 in
theorem ok_deeds_text (T : Txt w K mg) {fd : FuncData} (F : FunD K d_deeds_text.name d_deeds_text.qual d_deeds_text.params d_deeds_text.body d_deeds_text.scope (d_deeds_text.dvs K) (d_deeds_text.kws K) (He.fAd K d_deeds_text.at_) fd) : FnOk P w K mg base C8.CX0 5 (He.fAd K d_deeds_text.at_) fd ["deeds"] (sp_deeds_text K) := by
  have c_deed_line := c_deed_line (P := P) (w := w) (base := base) T
  have c_check_are_deeds := c_check_are_deeds (P := P) (w := w) (base := base) T
  refine F.ok sc_deeds_text (fun vs H Q E h => ?_) (fun cdv A outer s H vs Q E hr h => ?_)
  · obtain ⟨a, xs, ds, rfl, _⟩ := h
    rfl
  · have hu := L2.hu_of hr
    obtain ⟨a, xs, ds, rfl, hS, hD, hok, hl, q⟩ := h
    refine ⟨_, (PSs.nox ((pss_cons (ps_expr (C8.pe_c c_check_are_deeds hr (by decide) rfl (pa_cons (pv 0) pa_nil)))
  (pss_one (ps_ret (My.pe_joinK (K := K) rfl pe_str (pe_lc (own := [("deed", 1)]) (g := (gName 1)) (tt := tYes) (by rfl) sc_deeds_text.nd (My.pi_listK (K := K) rfl (pv 0)) (blkOk_by (N := N_deeds_text) (sc := defScope s_deeds_text) (by decide +kernel)) (fun _ _ _ _ _ => (pg_name (i := 1) sc_deeds_text.nd rfl (by first | exact Or.inl rfl | exact Or.inr rfl))) (fun _ _ _ _ _ => pts_nil) (fun _ _ _ _ _ => (C8.pe_c c_deed_line hr (by decide) rfl (pa_cons (pv 1) pa_nil)))))))))), ?_⟩
    refine ⟨_, rfl, a, xs, ds, rfl, hS, hD, hok, fun H1 s1 => ?_⟩
    refine ⟨⟨_, rfl⟩, _, rfl, a, rfl, ⟨_, s1.seq hS⟩, fun D hD1 => ?_⟩
    have hlen := hD.length
    refine lc_list (K := K) (a := a) (xs := xs) (fun i H' => Same H1 H' ∧ H' D = some (.lst (((ds.take i).map lineF).map V.str))) ⟨same_new hD1, upd_same⟩ (fun i H' _ z => z.1.seq (s1.seq hS)) ?_ ?_
    · rintro i y H2 hi ⟨s2, hD2⟩
      obtain ⟨d, hd, b, rfl, hb⟩ := paired_at hD hi
      refine ⟨rfl, ?_⟩
      refine ⟨_, rfl, b, d, rfl, same_tup s2 (same_tup s1 hb), hok d (List.mem_of_getElem? hd), fun H3 s3 => ?_⟩
      refine ⟨_, s3 _ _ hD2, ?_, same_upd (s2.trans s3) hD1, ?_⟩
      · rw [List.length_map, List.length_map, List.length_take]
        exact lt_line (by omega)
      · rw [upd_same, take_more hd, List.map_append, List.map_append]
        rfl
    · rintro H2 ⟨s2, hD2⟩
      rw [hlen, List.take_length] at hD2
      refine ⟨"\n", D, ds.map lineF, rfl, rfl, .inl (SqL.of hD2), ?_, q _ (s1.trans s2)⟩
      have h1 := sum_lines hok
      have e2 : ("\n" : Str).length = 1 := by decide +kernel
      rw [List.length_map, e2]
      omega
theorem c_deeds_text (T : Txt w K mg) : C8.Cal P w K mg base 5 "deeds_text" (sp_deeds_text K) [] := by
  obtain ⟨fd, F⟩ := T.f_deeds_text
  exact ⟨_, fd, _, _, ok_deeds_text T F, T.g_deeds_text, F.kp, F.bindsN (fun _ _ _ _ _ _ us hl => match us, hl with | [_], _ => rfl), .nil⟩
theorem k_deeds_text (T : Txt w K mg) : My.CalK1 P w K mg base 5 "deeds_text" (sp_deeds_text K) "deeds" := by
  obtain ⟨fd, F⟩ := T.f_deeds_text
  exact ⟨_, fd, ok_deeds_text T F, T.g_deeds_text, F.kp, My.kw1_of F (fun _ _ _ _ _ _ _ => rfl)⟩
end
end K15

namespace K15
open PySem PySem.Spec PyProof.Rows L2 My StX
section
variable {P : Program} {w : World} {K : PySem.W.Frag} {mg : Str → Option Value} {base : Heap}
def sp_are_distinct_words (K : PySem.W.Frag) : Sp := fun vs H Q _ => ∃ (a b : Addr) (zs ws : List Str), vs = [.ref a, .ref b] ∧ SqT K H a (zs.map V.str) ∧ SqT K H b (ws.map V.str) ∧ zs.Nodup ∧ zs.length ≤ 100 ∧ (∀ z ∈ zs, z ∈ ws) ∧ ∀ H', Same H H' → Q (.bl true) H'
set_option maxHeartbeats 2000000 in
theorem ok_are_distinct_words (T : Txt w K mg) {fd : FuncData} (F : FunD K d_are_distinct_words.name d_are_distinct_words.qual d_are_distinct_words.params d_are_distinct_words.body d_are_distinct_words.scope (d_are_distinct_words.dvs K) (d_are_distinct_words.kws K) (He.fAd K d_are_distinct_words.at_) fd) : FnOk P w K mg base C8.CX0 2 (He.fAd K d_are_distinct_words.at_) fd ["value", "words"] (sp_are_distinct_words K) := by
  have c_is_word := c_is_word (P := P) (w := w) (base := base) T
  refine F.ok sc_are_distinct_words (fun vs H Q E h => ?_) (fun cdv A outer s H vs Q E hr h => ?_)
  · obtain ⟨a, b, zs, ws, rfl, _⟩ := h
    rfl
  · have hu := L2.hu_of hr
    obtain ⟨a, b, zs, ws, rfl, hz, hw, hd, hl, hm, q⟩ := h
    refine ⟨_, (PSs.nox ((pss_cons (ps_if (PW.pt (pw_or (pt_not (pt_val (pe_callB (My.isiK (K := K) rfl) (by rfl) T.isinstance (by decide +kernel) (pa_cons (pv 0) (pa_cons (pe_bltn (v := .ty "tuple") (u := .type "tuple") rfl T.tuple (by decide +kernel) rfl) pa_nil))))) (pw_or1 (pt_not (pt_val (pe_callB (My.allK (K := K) rfl rfl) (by rfl) T.all (by decide +kernel) (pa_cons (pe_lc (own := [("item", 2)]) (g := (gName 2)) (tt := tYes) (by rfl) sc_are_distinct_words.nd (My.pi_tupK (K := K) rfl (pv 0)) (blkOk_by (N := N_are_distinct_words) (sc := defScope s_are_distinct_words) (by decide +kernel)) (fun _ _ _ _ _ => (pg_name (i := 2) sc_are_distinct_words.nd rfl (by first | exact Or.inl rfl | exact Or.inr rfl))) (fun _ _ _ _ _ => pts_nil) (fun _ _ _ _ _ => (C8.pe_c c_is_word hr (by decide) rfl (pa_cons (pv 2) (pa_cons (pv 1) pa_nil))))) pa_nil)))))))
  (pss_one (ps_ret pe_bl))
  pss_nil)
  (pss_one (ps_ret (pe_cmpR op_eq (My.pe_lenSetT (K := K) rfl (by rfl) (by rfl) T.len (by rfl) T.set (pv 0)) (pe_callB (My.len_seqK (K := K) rfl) (by rfl) T.len (by decide +kernel) (pa_cons (pv 0) pa_nil)) (nomark _))))))), ?_⟩
    refine ⟨_, rfl, _, _, _, _, _, rfl, .ty "tuple", tyx_tup hz, L2.kit_ty (by decide +kernel), true, rfl, ?_⟩
    refine L2.iteF ?_
    refine ⟨_, rfl, a, rfl, ⟨_, hz⟩, fun D hD => lc_tup (K := K) (a := a) (xs := zs.map V.str) (fun i H' => Same H H' ∧ H' D = some (.lst ((List.replicate i true).map V.bl))) ⟨same_new hD, upd_same⟩ (fun i H' _ p => same_tup p.1 hz) ?_ ?_⟩
    · rintro i y H2 hi ⟨s2, hD2⟩
      obtain ⟨z, hzz, rfl⟩ := map_get hi
      have hlt : i < zs.length := (List.getElem?_eq_some_iff.mp hzz).1
      have hmz : z ∈ ws := hm z (List.mem_of_getElem? hzz)
      refine ⟨rfl, ?_⟩
      refine ⟨_, rfl, _, rfl, z, b, ws, rfl, same_tup s2 hw, ?_⟩
      rw [decide_eq_true hmz]
      refine ⟨_, hD2, ?_, same_upd s2 hD, ?_⟩
      · rw [List.length_map, List.length_replicate]
        exact lt_line (by omega)
      · rw [upd_same, List.replicate_succ', List.map_append]
        rfl
    · rintro H2 ⟨s2, hD2⟩
      refine ⟨D, _, rfl, SqL.of hD2, ?_⟩
      have e2 : (List.replicate (zs.map V.str).length true).all id = true := List.all_eq_true.mpr fun x hx => (List.mem_replicate.mp hx).2
      rw [e2]
      refine ⟨_, rfl, L2.iteF ?_⟩
      refine ⟨_, rfl, a, zs, rfl, same_tup s2 hz, hd, by omega, ?_⟩
      refine ⟨_, rfl, a, _, rfl, .inr (same_tup s2 hz), rfl, ?_⟩
      rw [List.length_map, decide_eq_true rfl]
      exact q _ s2
theorem c_are_distinct_words (T : Txt w K mg) : C8.Cal P w K mg base 2 "are_distinct_words" (sp_are_distinct_words K) [] := by
  obtain ⟨fd, F⟩ := T.f_are_distinct_words
  exact ⟨_, fd, _, _, ok_are_distinct_words T F, T.g_are_distinct_words, F.kp, F.bindsN (fun _ _ _ _ _ _ us hl => match us, hl with | [_, _], _ => rfl), .nil⟩
def takeR (zs : List Str) (rs gs : List RuleL) : List RuleL := (List.range 8).map fun i => if moms.getD i Str.empty ∈ zs then at_ gs i else at_ rs i
def sp_Book_taking (K : PySem.W.Frag) : Sp := fun vs H Q _ => ∃ (s g m : Addr) (d d2 : Int) (rs gs : List RuleL) (zs : List Str), vs = [.ref s, .ref g, .ref m] ∧ BookAt K H s d rs ∧ BookAt K H g d2 gs ∧ GoodB rs ∧ GoodB gs ∧ SqT K H m (zs.map V.str) ∧ zs.Nodup ∧ zs.length ≤ 100 ∧ (∀ z ∈ zs, z ∈ moms) ∧ 1 ≤ d ∧ d ≤ 30 ∧
  ∀ H' p, H p = none → Same H H' → BookAt K H' p d (takeR zs rs gs) → Q (.ref p) H'
set_option maxHeartbeats 2000000 in
theorem ok_Book_taking (T : Txt w K mg) {fd : FuncData} (F : FunD K d_Book_taking.name d_Book_taking.qual d_Book_taking.params d_Book_taking.body d_Book_taking.scope (d_Book_taking.dvs K) (d_Book_taking.kws K) (He.fAd K d_Book_taking.at_) fd) : FnOk P w K mg base C8.CX0 5 (He.fAd K d_Book_taking.at_) fd ["self", "good", "moments"] (sp_Book_taking K) := by
  have c_Book_init := c_Book_init (P := P) (w := w) (base := base) T
  have c_Book_rule := c_Book_rule (P := P) (w := w) (base := base) T
  have c_are_distinct_words := c_are_distinct_words (P := P) (w := w) (base := base) T
  refine F.ok sc_Book_taking (fun vs H Q E h => ?_) (fun cdv A outer s H vs Q E hr h => ?_)
  · obtain ⟨s, g, m, d, d2, rs, gs, zs, rfl, _⟩ := h
    rfl
  · have hu := L2.hu_of hr
    obtain ⟨s1, g, m, d, d2, rs, gs, zs, rfl, hs, hg, gr, gg, hm, hd, hl, hmm, h1, h2, q⟩ := h
    refine ⟨_, (PSs.nox ((pss_cons (ps_if (pt_not (pt_val (C8.pe_c c_are_distinct_words hr (by decide) rfl (pa_cons (pv 2) (pa_cons (pe_glob (v := .ref (He.ga K "MOMENTS")) rfl T.g_MOMENTS rfl) pa_nil)))))
  (pss_one ps_never)
  pss_nil)
  (pss_cons (ps_setLc (i := 3) (own := [("moment", 4)]) (g := (gName 4)) (tt := tYes) (by rfl) sc_Book_taking.nd rfl rfl (sw_true rfl rfl rfl (by decide +kernel)) (My.pi_tupK (K := K) rfl (pe_glob (v := .ref (He.ga K "MOMENTS")) rfl T.g_MOMENTS rfl)) (blkOk_by (N := N_Book_taking) (sc := defScope s_Book_taking) (by decide +kernel)) (fun _ _ _ _ _ => (pg_name (i := 4) sc_Book_taking.nd rfl (by first | exact Or.inl rfl | exact Or.inr rfl))) (fun _ _ _ _ _ => pts_nil) (fun _ _ _ _ _ => (pe_ifExp (pt_cmpR (My.in_seqK (K := K) rfl) (pv 4) (pv 2) (by rfl)) (C8.pe_mt c_Book_rule hr (by decide) (pv 1) (pa_cons (pv 4) pa_nil)) (C8.pe_mt c_Book_rule hr (by decide) (pv 0) (pa_cons (pv 4) pa_nil)))))
  (pss_one (ps_ret (My.pe_mkS2 c_Book_init hr (by decide) rfl (pa_cons (My.pe_fldK (K := K) rfl (pv 0) rfl) (My.pa_starK (K := K) rfl (pv 3) pa_nil))))))))), ?_⟩
    refine ⟨_, rfl, m, He.ga K "MOMENTS", zs, moms, rfl, hm, T.tup_MOMENTS _, hd, hl, hmm, fun H1 s2 => ⟨_, rfl, L2.iteF ?_⟩⟩
    have hs1 := hs.same s2
    have hg1 := hg.same s2
    have hm1 := same_tup s2 hm
    refine ⟨_, rfl, ⟨_, T.tup_MOMENTS _⟩, fun D hD => ?_⟩
    refine lc_tup (K := K) (xs := moms.map V.str) (fun i H' => Same H1 H' ∧ ∃ us : List Addr, H' D = some (.lst (us.map V.ref)) ∧ Paired (RuleAt K H') us ((takeR zs rs gs).take i)) ⟨same_new hD, [], upd_same, .nil⟩ (fun i H' _ p => T.tup_MOMENTS _) ?_ ?_
    · rintro i y H2 hi ⟨s3, us, hD2, hu⟩
      obtain ⟨z, hz, rfl⟩ := map_get hi
      have hi8 : i < 8 := (List.getElem?_eq_some_iff.mp hz).1
      have hul : us.length ≤ 8 := by
        rw [hu.length, List.length_take]
        unfold takeR
        rw [List.length_map, List.length_range]
        omega
      have hs2 := hs1.same s3
      have hg2 := hg1.same s3
      have hrow : (takeR zs rs gs)[i]? = some (if z ∈ zs then at_ gs i else at_ rs i) := by
        unfold takeR
        have eg : moms.getD i Str.empty = z := by
          rw [List.getD_eq_getElem?_getD, hz]
          rfl
        rw [List.getElem?_map, List.getElem?_range hi8]
        show some (if moms.getD i Str.empty ∈ zs then at_ gs i else at_ rs i) = _
        rw [eg]
      have add : ∀ a, RuleAt K H2 a (if z ∈ zs then at_ gs i else at_ rs i) → ∃ acc, H2 D = some (.lst acc) ∧ acc.length < sizeLine ∧ Same H1 (upd H2 D (.lst (acc ++ [V.ref a]))) ∧ ∃ us : List Addr, upd H2 D (.lst (acc ++ [V.ref a])) D = some (.lst (us.map V.ref)) ∧ Paired (RuleAt K (upd H2 D (.lst (acc ++ [V.ref a])))) us ((takeR zs rs gs).take (i + 1)) := fun a ha => by
        refine ⟨_, hD2, by rw [List.length_map]; exact lt_line (by omega), same_upd s3 hD, us ++ [a], by rw [upd_same, List.map_append]; rfl, ?_⟩
        rw [take_more hrow]
        exact Paired.snoc (paired_map (fun _ _ _ hh => tupU hD2 hh) hu) (tupU hD2 ha)
      refine ⟨rfl, ?_⟩
      refine ⟨_, rfl, _, rfl, m, _, rfl, .inr (same_tup s3 hm1), rfl, My.all_flat_str zs, _, rfl, ?_⟩
      have e0 : (if false = true then !(inV (.str z) (zs.map V.str)) else inV (.str z) (zs.map V.str)) = decide (z ∈ zs) := by rw [if_neg Bool.false_ne_true, My.inV_str]
      rw [e0]
      refine L2.ite2 (fun c => ?_) (fun c => ?_)
      · have c2 : z ∈ zs := of_decide_eq_true c
        rw [if_pos c2] at add
        obtain ⟨dxg, tg, ag, hgb, _⟩ := id hg2
        refine ⟨_, rfl, g, _, _, rfl, hgb, rfl, _, rfl, H2, g, d2, gs, z, i, at_ gs i, rfl, Same.refl _, hg2, hz, gg.get hi8, fun a ha => add a ha⟩
      · have c2 : z ∉ zs := fun e => c (decide_eq_true e)
        rw [if_neg c2] at add
        obtain ⟨dxs, ts, as, hsb, _⟩ := id hs2
        refine ⟨_, rfl, s1, _, _, rfl, hsb, rfl, _, rfl, H2, s1, d, rs, z, i, at_ rs i, rfl, Same.refl _, hs2, hz, gr.get hi8, fun a ha => add a ha⟩
    · rintro H2 ⟨s3, us, hD2, hu⟩
      have htl : (takeR zs rs gs).length = 8 := by
        unfold takeR
        rw [List.length_map, List.length_range]
      rw [List.take_of_length_le (by rw [htl]; exact Nat.le_refl _)] at hu
      have hs2 := hs1.same s3
      have tgood : ∀ r ∈ takeR zs rs gs, GoodRule r := fun r hr => by
        unfold takeR at hr
        obtain ⟨i, hi, rfl⟩ := List.mem_map.mp hr
        have hi8 := List.mem_range.mp hi
        split
        · exact gg.good _ (List.mem_of_getElem? (gg.get hi8))
        · exact gr.good _ (List.mem_of_getElem? (gr.get hi8))
      obtain ⟨dxb, t, as, hb, ht, hrs, hl8⟩ := id hs2
      refine ⟨_, rfl, s1, _, dxb, _, _, rfl, hb, T.cl_Book, T.no_Book__days, rfl, _, rfl, D, _, rfl, .inr (SqL.of hD2), ?_⟩
      intro x dx nx ndx nex
      have z1 : Same H2 (upd (upd H2 dx (.own x)) x (.ins (He.ga K "Book") dx [])) := (same_new ndx).trans (same_upd (Same.refl _) (by rw [upd_ne nex.symm]; exact nx))
      have z2 := s2.trans s3
      refine ⟨x, dx, d, us, takeR zs rs gs, by rw [List.append_nil, List.append_nil], upd_same, h1, h2, paired_map (fun a r _ hr => same_tup z1 hr) hu, htl, tgood, fun H' t2 bt hx ht2 => ⟨rfl, ?_⟩⟩
      have z3 : Same H2 H' := fun c o e => bt c o (by simpa using ne_of_none e nx) (z1 _ _ e)
      exact q _ x (z2.free nx) (z2.trans z3) ⟨dx, t2, _, hx, SqT.of ht2, paired_map (fun a r _ hr => same_tup z3 hr) hu, htl⟩
theorem c_Book_taking (T : Txt w K mg) : C8.Met P w K mg base 5 (He.ga K "Book") "taking" (sp_Book_taking K) [] := by
  obtain ⟨fd, F⟩ := T.f_Book_taking
  exact ⟨_, fd, _, _, T.cl_Book, T.m_Book_taking, ok_Book_taking T F, F.bindsN (fun _ _ _ _ _ _ us hl => match us, hl with | [_, _, _], _ => rfl), .nil⟩
def sp_Book_with_days (K : PySem.W.Frag) : Sp := fun vs H Q _ => ∃ (s : Addr) (d d2 : Int) (rs : List RuleL), vs = [.ref s, .int d2] ∧ BookAt K H s d rs ∧ GoodB rs ∧ 1 ≤ d2 ∧ d2 ≤ 30 ∧
  ∀ H' p, H p = none → Same H H' → BookAt K H' p d2 rs → Q (.ref p) H'
set_option maxHeartbeats 2000000 in
theorem ok_Book_with_days (T : Txt w K mg) {fd : FuncData} (F : FunD K d_Book_with_days.name d_Book_with_days.qual d_Book_with_days.params d_Book_with_days.body d_Book_with_days.scope (d_Book_with_days.dvs K) (d_Book_with_days.kws K) (He.fAd K d_Book_with_days.at_) fd) : FnOk P w K mg base C8.CX0 5 (He.fAd K d_Book_with_days.at_) fd ["self", "days"] (sp_Book_with_days K) := by
  have c_Book_init := c_Book_init (P := P) (w := w) (base := base) T
  refine F.ok sc_Book_with_days (fun vs H Q E h => ?_) (fun cdv A outer s H vs Q E hr h => ?_)
  · obtain ⟨s, d, d2, rs, rfl, _⟩ := h
    rfl
  · have hu := L2.hu_of hr
    obtain ⟨s1, d, d2, rs, rfl, hs, gr, h1, h2, q⟩ := h
    refine ⟨_, (PSs.nox ((pss_cons (ps_set (i := 2) sc_Book_with_days.nd rfl (by first | exact Or.inl rfl | exact Or.inr rfl) (My.pe_fldK (K := K) rfl (pv 0) rfl))
  (pss_one (ps_ret (My.pe_mkS2 c_Book_init hr (by decide) rfl (pa_cons (pv 1) (My.pa_starK (K := K) rfl (pv 2) pa_nil)))))))), ?_⟩
    obtain ⟨dxb, t, as, hb, ht, hrs, hl⟩ := id hs
    refine ⟨_, rfl, s1, _, dxb, _, _, rfl, hb, T.cl_Book, T.no_Book__rules, rfl, ?_⟩
    refine ⟨_, rfl, _, rfl, t, _, rfl, .inl ht, ?_⟩
    intro x dx nx ndx nex
    have z1 : Same H (upd (upd H dx (.own x)) x (.ins (He.ga K "Book") dx [])) := (same_new ndx).trans (same_upd (Same.refl _) (by rw [upd_ne nex.symm]; exact nx))
    refine ⟨x, dx, d2, as, rs, by rw [List.append_nil, List.append_nil], upd_same, h1, h2, paired_map (fun a r _ hr => same_tup z1 hr) hrs, hl, gr.good, fun H' t2 bt hx ht2 => ⟨rfl, ?_⟩⟩
    have z3 : Same H H' := fun c o e => bt c o (by simpa using ne_of_none e nx) (z1 _ _ e)
    exact q _ x nx z3 ⟨dx, t2, _, hx, SqT.of ht2, paired_map (fun a r _ hr => same_tup z3 hr) hrs, hl⟩
theorem c_Book_with_days (T : Txt w K mg) : C8.Met P w K mg base 5 (He.ga K "Book") "with_days" (sp_Book_with_days K) [] := by
  obtain ⟨fd, F⟩ := T.f_Book_with_days
  exact ⟨_, fd, _, _, T.cl_Book, T.m_Book_with_days, ok_Book_with_days T F, F.bindsN (fun _ _ _ _ _ _ us hl => match us, hl with | [_, _], _ => rfl), .nil⟩
end
end K15

namespace K15
open PySem PySem.Spec PyProof.Rows L2 My StX
section
variable {P : Program} {w : World} {K : PySem.W.Frag} {mg : Str → Option Value} {base : Heap}
def gK5 {α : Type} (us its ws : List α) : List α := us ++ ws.drop 4 ++ its.take 4 ++ (ws.take 4).reverse
set_option maxHeartbeats 4000000 in
theorem kn_Book_init_power_late_gone_taken_days (T : Txt w K mg) : My.MakN P w K mg base 3 "Book" (He.ga K "Book") (sp_Book_init K) 0 ["power", "late", "gone", "taken", "days"] (fun vs zs => gK5 vs (d_Book_init.dvs K) zs) := by
  obtain ⟨fd, F⟩ := T.f_Book_init
  obtain ⟨its, hb⟩ := F.kbindsD (ps := ["self", "days", "given", "laid", "left", "opened", "taken", "gone", "late", "power"]) 1 ["power", "late", "gone", "taken", "days"] (fun us its ws => gK5 us its ws) (by intro z; cases z)
    (fun r1 r2 r3 => ((r1.append (My.vals_drop 4 r3)).append (r2.take 4)).append (r3.take 4).reverse)
    (fun T kV doc pm an cdv ct us its ws h1 h2 h3 => match us, its, ws, h1, h2, h3 with | [_], [_, _, _, _, _, _, _, _], [_, _, _, _, _], _, _, _ => ⟨_, rfl, rfl⟩)
  exact ⟨_, fd, _, _, T.mk_Book, ok_Book_init T F, T.g_Book, hb⟩
def gK1 {α : Type} (us its ws : List α) : List α := us ++ its.take 1 ++ ws ++ its.drop 2
set_option maxHeartbeats 4000000 in
theorem kn_Book_init_laid (T : Txt w K mg) : My.MakN P w K mg base 3 "Book" (He.ga K "Book") (sp_Book_init K) 1 ["laid"] (fun vs zs => gK1 vs (d_Book_init.dvs K) zs) := by
  obtain ⟨fd, F⟩ := T.f_Book_init
  obtain ⟨its, hb⟩ := F.kbindsD (ps := ["self", "days", "given", "laid", "left", "opened", "taken", "gone", "late", "power"]) 2 ["laid"] (fun us its ws => gK1 us its ws) (by intro z; cases z)
    (fun r1 r2 r3 => ((r1.append (r2.take 1)).append r3).append (My.vals_drop 2 r2))
    (fun T kV doc pm an cdv ct us its ws h1 h2 h3 => match us, its, ws, h1, h2, h3 with | [_, _], [_, _, _, _, _, _, _, _], [_], _, _, _ => ⟨_, rfl, rfl⟩)
  exact ⟨_, fd, _, _, T.mk_Book, ok_Book_init T F, T.g_Book, hb⟩
def gK0 {α : Type} (us its ws : List α) : List α := us ++ ws ++ its
set_option maxHeartbeats 4000000 in
theorem kn_Book_init_none (T : Txt w K mg) : My.MakN P w K mg base 3 "Book" (He.ga K "Book") (sp_Book_init K) 1 [] (fun vs zs => gK0 vs (d_Book_init.dvs K) zs) := by
  obtain ⟨fd, F⟩ := T.f_Book_init
  obtain ⟨its, hb⟩ := F.kbindsD (ps := ["self", "days", "given", "laid", "left", "opened", "taken", "gone", "late", "power"]) 2 [] (fun us its ws => gK0 us its ws) (by intro z; cases z)
    (fun r1 r2 r3 => (r1.append r3).append r2)
    (fun T kV doc pm an cdv ct us its ws h1 h2 h3 => match us, its, ws, h1, h2, h3 with | [_, _], [_, _, _, _, _, _, _, _], [], _, _, _ => ⟨_, rfl, rfl⟩)
  exact ⟨_, fd, _, _, T.mk_Book, ok_Book_init T F, T.g_Book, hb⟩
theorem mn_Book_taking (T : Txt w K mg) : My.MetN P w K mg base 5 (He.ga K "Book") "taking" (sp_Book_taking K) ["good", "moments"] My.kwGm := by
  obtain ⟨fd, F⟩ := T.f_Book_taking
  exact ⟨_, fd, _, _, T.cl_Book, T.m_Book_taking, ok_Book_taking T F, My.kwm_of F fun _ _ _ _ _ _ _ _ _ => rfl⟩
theorem takeR_by {zs : List Str} {rs gs : List RuleL} (c : List Bool) (hc : ((List.range 8).map fun i => decide (moms.getD i Str.empty ∈ zs)) = c) : takeR zs rs gs = (List.range 8).map fun i => if c.getD i false = true then at_ gs i else at_ rs i := by
  subst hc
  unfold takeR
  refine List.map_congr_left fun i hi => ?_
  have h8 := List.mem_range.mp hi
  rw [List.getD_eq_getElem?_getD (l := (List.range 8).map fun i => decide (moms.getD i Str.empty ∈ zs)), List.getElem?_map, List.getElem?_range h8]
  show (if moms.getD i Str.empty ∈ zs then at_ gs i else at_ rs i) = if decide (moms.getD i Str.empty ∈ zs) = true then at_ gs i else at_ rs i
  by_cases h : moms.getD i Str.empty ∈ zs
  · rw [if_pos h, if_pos (show decide (moms.getD i Str.empty ∈ zs) = true from decide_eq_true h)]
  · rw [if_neg h, if_neg (show ¬ decide (moms.getD i Str.empty ∈ zs) = true from fun e => h (of_decide_eq_true e))]
theorem take_a {a0 a1 a2 a3 r0 r1 r2 r3 r4 r5 r6 r7 : RuleL} : takeR (moms.take 4) [a0, a1, a2, a3, r4, r5, r6, r7] [r0, r1, r2, r3, r4, r5, r6, r7] = [r0, r1, r2, r3, r4, r5, r6, r7] := by
  rw [takeR_by [true, true, true, true, false, false, false, false] (by decide +kernel)]
  rfl
theorem take_b {a0 a1 a2 a3 a4 a5 a6 a7 r0 r1 r2 r3 r4 r5 r6 r7 : RuleL} : takeR moms.reverse [a0, a1, a2, a3, a4, a5, a6, a7] [r0, r1, r2, r3, r4, r5, r6, r7] = [r0, r1, r2, r3, r4, r5, r6, r7] := by
  rw [takeR_by [true, true, true, true, true, true, true, true] (by decide +kernel)]
  rfl
theorem take_c {a0 a2 a3 a4 a5 a6 a7 r0 r1 r2 r3 r4 r5 r6 r7 : RuleL} : takeR (moms.take 1 ++ moms.drop 2) [a0, r1, a2, a3, a4, a5, a6, a7] [r0, r1, r2, r3, r4, r5, r6, r7] = [r0, r1, r2, r3, r4, r5, r6, r7] := by
  rw [takeR_by [true, false, true, true, true, true, true, true] (by decide +kernel)]
  rfl
end
end K15

namespace K15
open PySem PySem.Spec PyProof.Rows L2 My StX
/-! ### parts, sums and repeats of tuples, whatever object they are -/
theorem cut_to {xs : List V} {c : Nat} : cutV xs none (some (c : Int)) = xs.take c := by
  unfold cutV
  rw [HT.sIx_nat, HT.sIx_none, List.drop_zero, Nat.sub_zero]
  by_cases h : c ≤ xs.length
  · rw [Nat.min_eq_left h]
  · rw [Nat.min_eq_right (by omega), List.take_of_length_le (Nat.le_refl _), List.take_of_length_le (by omega)]
theorem cut_from {xs : List V} {c : Nat} : cutV xs (some (c : Int)) none = xs.drop c := by
  unfold cutV
  rw [HT.sIx_nat, HT.sIx_none]
  by_cases h : c ≤ xs.length
  · rw [Nat.min_eq_left h]
    exact List.take_of_length_le (by rw [List.length_drop]; exact Nat.le_refl _)
  · rw [Nat.min_eq_right (by omega), List.drop_length, List.drop_of_length_le (by omega), List.take_nil]
section
variable {K : PySem.W.Frag} {H : Hp} {t u : Addr} {xs ys : List V} {Q : VK} {σ : L2.St}
theorem slA_cut {lo hi : Option Int} (h : SqT K H t xs) (q : ∀ m H7, Same H H7 → SqT K H7 m (cutV xs lo hi) → Q (.ref m) H7) : rSlA K (.ref t) lo hi H Q := by
  refine ⟨t, xs, rfl, h, fun z => ?_, fun _ m hm => q m _ (same_new hm) (SqT.of upd_same)⟩
  have e : cutV xs lo hi = xs := by
    unfold cutV
    rw [z.1, z.2, Nat.sub_zero, List.drop_zero, List.take_length]
  exact q t H (Same.refl _) (by rw [e]; exact h)
theorem slA_from {i : Nat} (h : SqT K H t xs) (q : ∀ m H7, Same H H7 → SqT K H7 m (xs.drop i) → Q (.ref m) H7) : tNoPart σ H fun v H3 => rSlA K (.ref t) (some (i : Int)) v H3 Q :=
  slA_cut (lo := some (i : Int)) (hi := none) h (by rw [cut_from]; exact q)
theorem slA_to {i : Nat} (h : SqT K H t xs) (q : ∀ m H7, Same H H7 → SqT K H7 m (xs.take i) → Q (.ref m) H7) : rSlA K (.ref t) none (some (i : Int)) H Q :=
  slA_cut (lo := none) (hi := some (i : Int)) h (by rw [cut_to]; exact q)
theorem catA_of (h : SqT K H t xs) (h2 : SqT K H u ys) (hl : xs.length + ys.length ≤ sizeLine) (q : ∀ m H7, Same H H7 → SqT K H7 m (xs ++ ys) → Q (.ref m) H7) : rCatA K (.ref t) (.ref u) H Q := by
  refine ⟨t, u, xs, ys, rfl, rfl, h, h2, hl, fun e => ?_, fun _ e => ?_, fun _ _ m hm => q m _ (same_new hm) (SqT.of upd_same)⟩
  · exact q u H (Same.refl _) (by rw [e]; exact h2)
  · exact q t H (Same.refl _) (by rw [e, List.append_nil]; exact h)
theorem repA_of {k : Nat} (h : SqT K H t xs) (hne : xs ≠ []) (hk : k ≤ 1000) (hl : xs.length ≤ 1000) (q : ∀ m H7, Same H H7 → SqT K H7 m (List.replicate k xs).flatten → Q (.ref m) H7) : rRepA K (.ref t) (.int (k : Int)) H Q := by
  refine ⟨t, (k : Int), xs, rfl, rfl, h, hne, by omega, by omega, hl, fun e => ?_, fun _ m hm => ?_⟩
  · obtain rfl : k = 1 := by omega
    exact q t H (Same.refl _) (by
      have e1 : (List.replicate 1 xs).flatten = xs := by
        show xs ++ [] = xs
        rw [List.append_nil]
      rw [e1]; exact h)
  · refine q m _ (same_new hm) ?_
    have e : (k : Int).toNat = k := Int.toNat_natCast k
    have := SqT.of (K := K) (upd_same (H := H) (a := m) (o := .tup (List.replicate (k : Int).toNat xs).flatten))
    rw [e] at this ⊢
    exact this
end
theorem repA_of2 {K : PySem.W.Frag} {H : Hp} {t : Addr} {xs : List V} {Q : VK} {v : Int} {k : Nat} (e : v = (k : Int)) (h : SqT K H t xs) (hne : xs ≠ []) (hk : k ≤ 1000) (hl : xs.length ≤ 1000) (q : ∀ m H7, Same H H7 → SqT K H7 m (List.replicate k xs).flatten → Q (.ref m) H7) : rRepA K (.ref t) (.int v) H Q := by
  subst e
  exact repA_of h hne hk hl q
theorem repA_c {K : PySem.W.Frag} {H : Hp} {t : Addr} {xs : List V} {Q : VK} {σ : L2.St} {v : Int} {k : Nat} (e : v = (k : Int)) (h : SqT K H t xs) (hne : xs ≠ []) (hk : k ≤ 1000) (hl : xs.length ≤ 1000) (q : ∀ m H7, Same H H7 → SqT K H7 m (List.replicate k xs).flatten → Q (.ref m) H7) : tC (.int v) σ H fun y H2 => rRepA K (.ref t) y H2 Q := repA_of2 e h hne hk hl q
theorem flat_one {α : Type} (x : α) : ∀ k : Nat, (List.replicate k [x]).flatten = List.replicate k x
  | 0 => rfl
  | k + 1 => by
    rw [List.replicate_succ, List.replicate_succ, List.flatten_cons, flat_one x k]
    rfl
theorem paired_rep {α β : Type} {F : α → β → Prop} {a : α} {b : β} (h : F a b) : ∀ m : Nat, Paired F (List.replicate m a) (List.replicate m b)
  | 0 => .nil
  | m + 1 => by
    rw [List.replicate_succ, List.replicate_succ]
    exact .cons h (paired_rep h m)
end K15

namespace K15
open PySem PySem.Spec PyProof.Rows L2 My StX
theorem len8r {rs : List RuleL} (e : rs.length = 8) : ∃ r0 r1 r2 r3 r4 r5 r6 r7, rs = [r0, r1, r2, r3, r4, r5, r6, r7] := by
  match rs, e with
  | [r0, r1, r2, r3, r4, r5, r6, r7], _ => exact ⟨r0, r1, r2, r3, r4, r5, r6, r7, rfl⟩
/-- days and rules as a pair -/
def PlanAt (K : PySem.W.Frag) (H : Hp) (p : Addr) (d : Int) (rs : List RuleL) : Prop := ∃ (t : Addr) (as : List Addr), SqT K H p [.int d, .ref t] ∧ SqT K H t (as.map V.ref) ∧ Paired (RuleAt K H) as rs
theorem PlanAt.same {K : PySem.W.Frag} {H H' : Hp} {p : Addr} {d : Int} {rs : List RuleL} (s : Same H H') (h : PlanAt K H p d rs) : PlanAt K H' p d rs := by
  obtain ⟨t, as, h1, h2, h3⟩ := h
  exact ⟨t, as, same_tup s h1, same_tup s h2, paired_map (fun _ _ _ x => same_tup s x) h3⟩
theorem PlanAt.draw {K : PySem.W.Frag} {H H' : Hp} {a p : Addr} {n : Nat} {d : Int} {rs : List RuleL} (b : But [a] H H') (s : SpringAt H a n) (h : PlanAt K H p d rs) : PlanAt K H' p d rs := by
  obtain ⟨t, as, h1, h2, h3⟩ := h
  exact ⟨t, as, But.tupS b s h1, But.tupS b s h2, paired_map (fun _ _ _ x => But.tupS b s x) h3⟩
theorem PlanAt.putL {K : PySem.W.Frag} {H : Hp} {D p : Addr} {l : List V} {o : HO} {d : Int} {rs : List RuleL} (hD : H D = some (.lst l)) (h : PlanAt K H p d rs) : PlanAt K (upd H D o) p d rs := by
  obtain ⟨t, as, h1, h2, h3⟩ := h
  exact ⟨t, as, tupU hD h1, tupU hD h2, paired_map (fun _ _ _ x => tupU hD x) h3⟩
theorem BookAt.draw {K : PySem.W.Frag} {H H' : Hp} {a b : Addr} {n : Nat} {d : Int} {rs : List RuleL} (s : But [a] H H') (h : SpringAt H a n) (t : BookAt K H b d rs) : BookAt K H' b d rs := by
  obtain ⟨dx, u, qs, q1, q2, q3, q4⟩ := t
  exact ⟨dx, u, qs, rawS s h q1 (fun _ _ z => by cases z), But.tupS s h q2, paired_map (fun x y _ hx => But.tupS s h hx) q3, q4⟩
theorem BookAt.putL {K : PySem.W.Frag} {H : Hp} {D b : Addr} {l : List V} {o : HO} {d : Int} {rs : List RuleL} (hD : H D = some (.lst l)) (t : BookAt K H b d rs) : BookAt K (upd H D o) b d rs := by
  obtain ⟨dx, u, qs, q1, q2, q3, q4⟩ := t
  exact ⟨dx, u, qs, (upd_ne (ne_of q1 hD (fun z => by cases z))).trans q1, tupU hD q2, paired_map (fun x y _ hx => tupU hD hx) q3, q4⟩
theorem made_one {r0 r1 r2 r3 r4 r5 r6 r7 : RuleL} : ∀ {i : Nat}, i < 9 → takeR (moms.drop i).reverse ([r0, r1, r2, r3, r4, r5, r6, r7].take i ++ List.replicate (8 - i) []) (List.replicate i (["off"] : RuleL) ++ [r0, r1, r2, r3, r4, r5, r6, r7].drop i) = [r0, r1, r2, r3, r4, r5, r6, r7]
  | 0, _ => by rw [takeR_by [true, true, true, true, true, true, true, true] (by decide +kernel)]; rfl
  | 1, _ => by rw [takeR_by [false, true, true, true, true, true, true, true] (by decide +kernel)]; rfl
  | 2, _ => by rw [takeR_by [false, false, true, true, true, true, true, true] (by decide +kernel)]; rfl
  | 3, _ => by rw [takeR_by [false, false, false, true, true, true, true, true] (by decide +kernel)]; rfl
  | 4, _ => by rw [takeR_by [false, false, false, false, true, true, true, true] (by decide +kernel)]; rfl
  | 5, _ => by rw [takeR_by [false, false, false, false, false, true, true, true] (by decide +kernel)]; rfl
  | 6, _ => by rw [takeR_by [false, false, false, false, false, false, true, true] (by decide +kernel)]; rfl
  | 7, _ => by rw [takeR_by [false, false, false, false, false, false, false, true] (by decide +kernel)]; rfl
  | 8, _ => by rw [takeR_by [false, false, false, false, false, false, false, false] (by decide +kernel)]; rfl
  | _ + 9, h => absurd h (by omega)
theorem good_nil : GoodRule [] := ⟨Nat.zero_le _, fun x hx => by cases hx⟩
theorem good_off : GoodRule ["off"] := ⟨by decide, fun x hx => by rw [List.mem_singleton.mp hx]; exact of_decide_eq_true (by decide +kernel)⟩
theorem set_next {rs : List RuleL} {i : Nat} {r : RuleL} (hl : rs.length = 8) (hi : i < 8) (hr : rs[i]? = some r) : (rs.take i ++ List.replicate (8 - i) []).set i r = rs.take (i + 1) ++ List.replicate (8 - (i + 1)) [] := by
  have e : 8 - i = (8 - (i + 1)) + 1 := by omega
  rw [e, List.replicate_succ, List.set_append, if_neg (by rw [List.length_take]; omega), take_more hr, List.length_take, Nat.min_eq_left (by omega), Nat.sub_self, List.append_assoc]
  rfl
section
variable {P : Program} {w : World} {K : PySem.W.Frag} {mg : Str → Option Value} {base : Heap}
def sp_law_rule (K : PySem.W.Frag) : Sp := fun vs H Q _ => ∃ (a : Addr) (n : Nat), vs = [.ref a] ∧ SpringAt H a n ∧ n ≤ 50000 ∧ ∀ H' p r, But [a] H H' → SpringAt H' a (n + 7) → RuleAt K H' p r → GoodRule r → Q (.ref p) H'
set_option maxHeartbeats 2000000 in
theorem ok_law_rule (T : Txt w K mg) {fd : FuncData} (F : FunD K d_law_rule.name d_law_rule.qual d_law_rule.params d_law_rule.body d_law_rule.scope (d_law_rule.dvs K) (d_law_rule.kws K) (He.fAd K d_law_rule.at_) fd) : FnOk P w K mg base C8.CX0 2 (He.fAd K d_law_rule.at_) fd ["pot"] (sp_law_rule K) := by
  have c_law_dip := c_law_dip (P := P) (w := w) (base := base) T
  refine F.ok sc_law_rule (fun vs H Q E h => ?_) (fun cdv A outer s H vs Q E hr h => ?_)
  · obtain ⟨a, n, rfl, _⟩ := h
    rfl
  · have hu := L2.hu_of hr
    obtain ⟨a, n, rfl, hs, hn, q⟩ := h
    refine ⟨_, (PSs.nox ((pss_cons (ps_set (i := 1) sc_law_rule.nd rfl (by first | exact Or.inl rfl | exact Or.inr rfl) (pe_lst (pa_cons pe_str (pa_cons pe_str (pa_cons pe_str (pa_cons pe_str (pa_cons pe_str (pa_cons pe_str (pa_cons pe_str pa_nil)))))))))
  (pss_one (ps_ret (pe_callTy (My.tuple_ofK (K := K) rfl) (by rfl) T.tuple (by decide +kernel) (pa_cons (pe_lc (own := [("k", 2)]) (g := (gName 2)) (tt := tYes) (by rfl) sc_law_rule.nd (pi_range1 (by rfl) T.range (pa_cons (C8.pe_c c_law_dip hr (by decide) rfl (pa_cons (pv 0) (pa_cons pe_int pa_nil))) pa_nil)) (blkOk_by (N := N_law_rule) (sc := defScope s_law_rule) (by decide +kernel)) (fun _ _ _ _ _ => (pg_name (i := 2) sc_law_rule.nd rfl (by first | exact Or.inl rfl | exact Or.inr rfl))) (fun _ _ _ _ _ => pts_nil) (fun _ _ _ _ _ => (pe_ix (My.ix_listK (K := K) rfl) (pv 1) (C8.pe_c c_law_dip hr (by decide) rfl (pa_cons (pv 0) (pa_cons pe_int pa_nil))) (fun _ _ => rfl)))) pa_nil))))))), ?_⟩
    refine ⟨by show 7 ≤ sizeLine; decide, fun b hb => ?_⟩
    have lt100 : ∀ m : Nat, m ≤ 60000 → m < 2 ^ 100 := fun m h => Nat.lt_of_le_of_lt h (by decide)
    have yb := same_new (o := .lst (acts.map V.str)) hb
    have nb : b ∉ [a] := fun z => by
      obtain ⟨_, _, _, e, _⟩ := hs
      rw [List.mem_singleton.mp z, e] at hb
      cases hb
    have hb1 : upd H b (.lst (acts.map V.str)) b = some (.lst (acts.map V.str)) := upd_same
    refine ⟨_, rfl, a, n, 7, rfl, hs.same yb, lt100 _ (by omega), by decide, by decide, fun H1 k b1 s1 k0 k1 => ⟨k, rfl, by omega, by omega, fun D hD => ?_⟩⟩
    have b01 := (But.of yb : But [a] H _).trans b1
    have hb2 := b1 _ _ nb hb1
    have yD := same_new (o := .lst []) hD
    have naD : a ≠ D := by
      obtain ⟨_, _, _, e, _⟩ := s1
      exact ne_of_none e hD
    have hHD : H D = none := b01.none (by simpa using naD.symm) hD
    have nbD : b ≠ D := ne_of_none hb2 hD
    refine lc_range (lo := 0) (n := k.toNat) (fun i H' => ∃ r : RuleL, r.length = i ∧ But [a] H H' ∧ SpringAt H' a (n + 1 + i) ∧ H' D = some (.lst (r.map V.str)) ∧ H' b = some (.lst (acts.map V.str)) ∧ ∀ x ∈ r, x ∈ acts) ⟨[], rfl, b01.put (.inl hHD), s1.put naD, upd_same, (upd_ne nbD).trans hb2, fun x hx => by cases hx⟩ ?_ ?_
    · rintro i H2 hi ⟨r, hl2, b2, s2, hD2, hb3, hr2⟩
      refine ⟨rfl, ?_⟩
      refine ⟨_, rfl, _, rfl, a, n + 1 + i, 7, rfl, s2, lt100 _ (by omega), by decide, by decide, fun H3 j b3 s3 j0 j1 => ?_⟩
      obtain ⟨m, hm, rfl⟩ : ∃ m : Nat, m < 7 ∧ j = (m : Int) := ⟨j.toNat, by omega, by omega⟩
      obtain ⟨x, hx⟩ : ∃ x, acts[m]? = some x := ⟨_, List.getElem?_eq_getElem (show m < acts.length from hm)⟩
      have hb4 := b3 _ _ nb hb3
      have hD3 := b3 _ _ (by simpa using naD.symm) hD2
      refine ⟨b, _, _, .str x, rfl, rfl, SqL.of hb4, atI_nat (by rw [List.getElem?_map, hx]; rfl), _, hD3, ?_, r ++ [x], by rw [List.length_append, hl2]; rfl, (b2.trans b3).put (.inl hHD), s3.put naD, by rw [upd_same, List.map_append]; rfl, (upd_ne nbD).trans hb4, fun z hz => ?_⟩
      · rw [List.length_map, hl2]
        exact lt_line (by omega)
      · rcases List.mem_append.mp hz with hz | hz
        · exact hr2 z hz
        · rw [List.mem_singleton.mp hz]; exact List.mem_of_getElem? hx
    · rintro H2 ⟨r, hl2, b2, s2, hD2, hb3, hr2⟩
      refine ⟨D, _, rfl, .inl ⟨SqL.of hD2, fun t ht => ?_⟩⟩
      have yt := same_new (o := .tup (r.map V.str)) ht
      exact q _ t r (b2.trans (But.of yt)) ((s2.same yt).mono (by omega)) (SqT.of upd_same) ⟨by omega, hr2⟩
theorem c_law_rule (T : Txt w K mg) : C8.Cal P w K mg base 2 "_law_rule" (sp_law_rule K) [] := by
  obtain ⟨fd, F⟩ := T.f_law_rule
  exact ⟨_, fd, _, _, ok_law_rule T F, T.g_law_rule, F.kp, F.bindsN (fun _ _ _ _ _ _ us hl => match us, hl with | [_], _ => rfl), .nil⟩
def sp_law_plan (K : PySem.W.Frag) : Sp := fun vs H Q _ => ∃ (a : Addr) (n : Nat), vs = [.ref a] ∧ SpringAt H a n ∧ n ≤ 40000 ∧ ∀ H' p d rs, But [a] H H' → SpringAt H' a (n + 60) → PlanAt K H' p d rs → GoodB rs → 1 ≤ d → d ≤ 30 → Q (.ref p) H'
set_option maxHeartbeats 2000000 in
theorem ok_law_plan (T : Txt w K mg) {fd : FuncData} (F : FunD K d_law_plan.name d_law_plan.qual d_law_plan.params d_law_plan.body d_law_plan.scope (d_law_plan.dvs K) (d_law_plan.kws K) (He.fAd K d_law_plan.at_) fd) : FnOk P w K mg base C8.CX0 3 (He.fAd K d_law_plan.at_) fd ["pot"] (sp_law_plan K) := by
  have c_law_rule := c_law_rule (P := P) (w := w) (base := base) T
  have c_law_dip := c_law_dip (P := P) (w := w) (base := base) T
  refine F.ok sc_law_plan (fun vs H Q E h => ?_) (fun cdv A outer s H vs Q E hr h => ?_)
  · obtain ⟨a, n, rfl, _⟩ := h
    rfl
  · have hu := L2.hu_of hr
    obtain ⟨a, n, rfl, hs, hn, q⟩ := h
    refine ⟨_, (PSs.nox ((pss_one (ps_ret (pe_tup (pa_cons (pe_op op_add pe_int (C8.pe_c c_law_dip hr (by decide) rfl (pa_cons (pv 0) (pa_cons pe_int pa_nil)))) (pa_cons (pe_callTy (My.tuple_ofK (K := K) rfl) (by rfl) T.tuple (by decide +kernel) (pa_cons (pe_lc (own := [("k", 1)]) (g := (gName 1)) (tt := tYes) (by rfl) sc_law_plan.nd (pi_range1 (by rfl) T.range (pa_cons pe_int pa_nil)) (blkOk_by (N := N_law_plan) (sc := defScope s_law_plan) (by decide +kernel)) (fun _ _ _ _ _ => (pg_name (i := 1) sc_law_plan.nd rfl (by first | exact Or.inl rfl | exact Or.inr rfl))) (fun _ _ _ _ _ => pts_nil) (fun _ _ _ _ _ => (C8.pe_c c_law_rule hr (by decide) rfl (pa_cons (pv 0) pa_nil)))) pa_nil)) pa_nil))))))), ?_⟩
    have lt100 : ∀ m : Nat, m ≤ 60000 → m < 2 ^ 100 := fun m h => Nat.lt_of_le_of_lt h (by decide)
    refine ⟨_, rfl, a, n, 30, rfl, hs, lt100 _ (by omega), by decide, by decide, fun H1 k b1 s1 k0 k1 => ⟨_, _, rfl, rfl, 8, rfl, by decide, by decide, fun D hD => ?_⟩⟩
    have yD := same_new (o := .lst []) hD
    have naD : a ≠ D := by
      obtain ⟨_, _, _, e, _⟩ := s1
      exact ne_of_none e hD
    have hHD : H D = none := b1.none (by simpa using naD.symm) hD
    refine lc_range (lo := 0) (n := (8 : Int).toNat) (fun i H' => ∃ (as : List Addr) (rs : List RuleL), rs.length = i ∧ But [a] H H' ∧ SpringAt H' a (n + 1 + 7 * i) ∧ H' D = some (.lst (as.map V.ref)) ∧ Paired (RuleAt K H') as rs ∧ ∀ r ∈ rs, GoodRule r) ⟨[], [], rfl, b1.put (.inl hHD), s1.put naD, upd_same, .nil, fun x hx => by cases hx⟩ ?_ ?_
    · rintro i H2 hi ⟨as, rs, hl2, b2, s2, hD2, hp2, hr2⟩
      have hi8 : i < 8 := hi
      refine ⟨rfl, ?_⟩
      refine ⟨_, rfl, a, _, rfl, s2, by omega, fun H3 p r b3 s3 hr hgr => ?_⟩
      have hD3 := b3 _ _ (by simpa using naD.symm) hD2
      refine ⟨_, hD3, ?_, as ++ [p], rs ++ [r], by rw [List.length_append, hl2]; rfl, (b2.trans b3).put (.inl hHD), ((s3.put naD).mono (by omega)), by rw [upd_same, List.map_append]; rfl, paired_app (paired_map (fun _ _ _ x => tupU hD3 (But.tupS b3 s2 x)) hp2) (.cons (tupU hD3 hr) .nil), fun z hz => ?_⟩
      · rw [List.length_map, hp2.length, hl2]
        exact lt_line (by omega)
      · rcases List.mem_append.mp hz with hz | hz
        · exact hr2 z hz
        · rw [List.mem_singleton.mp hz]; exact hgr
    · rintro H2 ⟨as, rs, hl2, b2, s2, hD2, hp2, hr2⟩
      refine ⟨D, _, rfl, .inl ⟨SqL.of hD2, fun t ht => ?_⟩⟩
      have yt := same_new (o := .tup (as.map V.ref)) ht
      refine ⟨by show 2 ≤ sizeLine; decide, fun p hp => ?_⟩
      have yp := same_new (o := .tup [.int (1 + k), .ref t]) hp
      have yy := yt.trans yp
      exact q _ p (1 + k) rs (b2.trans (But.of yy)) ((s2.same yy).mono (by show n + 1 + 7 * 8 ≤ n + 60; omega)) ⟨t, as, SqT.of upd_same, SqT.of (yp _ _ upd_same), paired_map (fun _ _ _ x => same_tup yy x) hp2⟩ ⟨hl2, hr2⟩ (by omega) (by omega)
theorem c_law_plan (T : Txt w K mg) : C8.Cal P w K mg base 3 "_law_plan" (sp_law_plan K) [] := by
  obtain ⟨fd, F⟩ := T.f_law_plan
  exact ⟨_, fd, _, _, ok_law_plan T F, T.g_law_plan, F.kp, F.bindsN (fun _ _ _ _ _ _ us hl => match us, hl with | [_], _ => rfl), .nil⟩
def sp_law_moments (K : PySem.W.Frag) : Sp := fun vs H Q _ => vs = [] ∧ ∀ t, H t = none → Q (.ref t) (upd H t (.lst (moms.map V.str)))
set_option maxHeartbeats 2000000 in
theorem ok_law_moments (T : Txt w K mg) {fd : FuncData} (F : FunD K d_law_moments.name d_law_moments.qual d_law_moments.params d_law_moments.body d_law_moments.scope (d_law_moments.dvs K) (d_law_moments.kws K) (He.fAd K d_law_moments.at_) fd) : FnOk P w K mg base C8.CX0 1 (He.fAd K d_law_moments.at_) fd [] (sp_law_moments K) := by
  refine F.ok sc_law_moments (fun vs H Q E h => ?_) (fun cdv A outer s H vs Q E hr h => ?_)
  · obtain ⟨rfl, _⟩ := h
    rfl
  · have hu := L2.hu_of hr
    obtain ⟨rfl, q⟩ := h
    refine ⟨_, (PSs.nox ((pss_one (ps_ret (pe_lst (pa_cons pe_str (pa_cons pe_str (pa_cons pe_str (pa_cons pe_str (pa_cons pe_str (pa_cons pe_str (pa_cons pe_str (pa_cons pe_str pa_nil))))))))))))), ?_⟩
    exact ⟨by show 8 ≤ sizeLine; decide, fun t ht => q t ht⟩
theorem c_law_moments (T : Txt w K mg) : C8.Cal P w K mg base 1 "_law_moments" (sp_law_moments K) [] := by
  obtain ⟨fd, F⟩ := T.f_law_moments
  exact ⟨_, fd, _, _, ok_law_moments T F, T.g_law_moments, F.kp, F.bindsN (fun _ _ _ _ _ _ us hl => match us, hl with | [], _ => rfl), .nil⟩
def sp_law_book (K : PySem.W.Frag) : Sp := fun vs H Q _ => ∃ (p : Addr) (d : Int) (rs : List RuleL), vs = [.ref p] ∧ PlanAt K H p d rs ∧ GoodB rs ∧ 1 ≤ d ∧ d ≤ 30 ∧ ∀ H' b, H b = none → Same H H' → BookAt K H' b d rs → Q (.ref b) H'
set_option maxHeartbeats 2000000 in
theorem ok_law_book (T : Txt w K mg) {fd : FuncData} (F : FunD K d_law_book.name d_law_book.qual d_law_book.params d_law_book.body d_law_book.scope (d_law_book.dvs K) (d_law_book.kws K) (He.fAd K d_law_book.at_) fd) : FnOk P w K mg base C8.CX0 5 (He.fAd K d_law_book.at_) fd ["plan"] (sp_law_book K) := by
  have c_Book_init := c_Book_init (P := P) (w := w) (base := base) T
  refine F.ok sc_law_book (fun vs H Q E h => ?_) (fun cdv A outer s H vs Q E hr h => ?_)
  · obtain ⟨p, d, rs, rfl, _⟩ := h
    rfl
  · have hu := L2.hu_of hr
    obtain ⟨p, d, rs, rfl, hp, hg, h1, h2, q⟩ := h
    refine ⟨_, (PSs.nox ((pss_cons (ps_set (i := 1) sc_law_book.nd rfl (by first | exact Or.inl rfl | exact Or.inr rfl) (pe_ix (My.ix_tupK (K := K) rfl) (pv 0) pe_int (fun _ _ => rfl)))
  (pss_one (ps_ret (C8.pe_mk c_Book_init hr (by decide) rfl (pa_cons (pe_ix (My.ix_tupK (K := K) rfl) (pv 0) pe_int (fun _ _ => rfl)) (pa_cons (pe_ix (My.ix_tupK (K := K) rfl) (pv 1) pe_int (fun _ _ => rfl)) (pa_cons (pe_ix (My.ix_tupK (K := K) rfl) (pv 1) pe_int (fun _ _ => rfl)) (pa_cons (pe_ix (My.ix_tupK (K := K) rfl) (pv 1) pe_int (fun _ _ => rfl)) (pa_cons (pe_ix (My.ix_tupK (K := K) rfl) (pv 1) pe_int (fun _ _ => rfl)) (pa_cons (pe_ix (My.ix_tupK (K := K) rfl) (pv 1) pe_int (fun _ _ => rfl)) (pa_cons (pe_ix (My.ix_tupK (K := K) rfl) (pv 1) pe_int (fun _ _ => rfl)) (pa_cons (pe_ix (My.ix_tupK (K := K) rfl) (pv 1) pe_int (fun _ _ => rfl)) (pa_cons (pe_ix (My.ix_tupK (K := K) rfl) (pv 1) pe_int (fun _ _ => rfl)) pa_nil))))))))))))))), ?_⟩
    obtain ⟨t, as, hp1, ht1, h3⟩ := hp
    obtain ⟨a0, a1, a2, a3, a4, a5, a6, a7, rfl⟩ := len8 h3 hg.len
    refine ⟨_, rfl, p, _, 1, _, rfl, rfl, hp1, rfl, ?_⟩
    refine ⟨_, rfl, p, _, 0, _, rfl, rfl, hp1, rfl, ?_⟩
    iterate 8 refine ⟨_, rfl, t, _, _, _, rfl, rfl, ht1, rfl, ?_⟩
    intro x dx nx ndx nex
    have s0 : Same H (upd (upd H dx (.own x)) x (.ins (He.ga K "Book") dx [])) := (same_new ndx).trans (same_upd (Same.refl _) (by rw [upd_ne nex.symm]; exact nx))
    refine ⟨x, dx, d, _, rs, rfl, upd_same, h1, h2, paired_map (fun a r _ hr => same_tup s0 hr) h3, hg.len, hg.good, fun H' t2 bt hx ht => ⟨rfl, ?_⟩⟩
    have s1 : Same H H' := fun c o e => bt c o (by simpa using ne_of_none e nx) (s0 _ _ e)
    exact q _ x nx s1 ⟨dx, t2, _, hx, SqT.of ht, paired_map (fun a r _ hr => same_tup s1 hr) h3, hg.len⟩
theorem c_law_book (T : Txt w K mg) : C8.Cal P w K mg base 5 "_law_book" (sp_law_book K) [] := by
  obtain ⟨fd, F⟩ := T.f_law_book
  exact ⟨_, fd, _, _, ok_law_book T F, T.g_law_book, F.kp, F.bindsN (fun _ _ _ _ _ _ us hl => match us, hl with | [_], _ => rfl), .nil⟩
def sp_law_made (K : PySem.W.Frag) : Sp := fun vs H Q _ => ∃ (a p : Addr) (n : Nat) (d : Int) (rs : List RuleL), vs = [.ref a, .ref p] ∧ SpringAt H a n ∧ n ≤ 30000 ∧ PlanAt K H p d rs ∧ GoodB rs ∧ 1 ≤ d ∧ d ≤ 30 ∧ ∀ H' b, But [a] H H' → SpringAt H' a (n + 10) → BookAt K H' b d rs → Q (.ref b) H'
set_option maxHeartbeats 2000000 in
theorem ok_law_made (T : Txt w K mg) {fd : FuncData} (F : FunD K d_law_made.name d_law_made.qual d_law_made.params d_law_made.body d_law_made.scope (d_law_made.dvs K) (d_law_made.kws K) (He.fAd K d_law_made.at_) fd) : FnOk P w K mg base C8.CX0 6 (He.fAd K d_law_made.at_) fd ["pot", "plan"] (sp_law_made K) := by
  have c_law_book := c_law_book (P := P) (w := w) (base := base) T
  have c_Book_with_days := c_Book_with_days (P := P) (w := w) (base := base) T
  have c_law_dip := c_law_dip (P := P) (w := w) (base := base) T
  have c_Book_taking := c_Book_taking (P := P) (w := w) (base := base) T
  have c_Book_with_rule := c_Book_with_rule (P := P) (w := w) (base := base) T
  have kn_Book_init_none := kn_Book_init_none (P := P) (w := w) (base := base) T
  have c_law_moments := c_law_moments (P := P) (w := w) (base := base) T
  refine F.ok sc_law_made (fun vs H Q E h => ?_) (fun cdv A outer s H vs Q E hr h => ?_)
  · obtain ⟨a, p, n, d, rs, rfl, _⟩ := h
    rfl
  · have hu := L2.hu_of hr
    obtain ⟨a, p, n, d, rs, rfl, hs, hn, hp, hg, h1, h2, q⟩ := h
    refine ⟨_, (PSs.nox ((pss_cons (ps_par3 (i := 2) (j := 3) (l := 4) (by rfl) sc_law_made.nd rfl rfl rfl (by decide) (by decide) (by decide) rfl rfl rfl (pa_cons (C8.pe_c c_law_dip hr (by decide) rfl (pa_cons (pv 0) (pa_cons pe_int pa_nil))) (pa_cons (pe_ix (My.ix_tupK (K := K) rfl) (pv 1) pe_int (fun _ _ => rfl)) (pa_cons (My.pe_c0 c_law_moments hr (by decide) rfl) pa_nil))) (by rfl))
  (pss_cons (ps_if (pt_cmpR op_eq (pv 2) pe_int (nomark _))
  (pss_cons (ps_set (i := 5) sc_law_made.nd rfl (by first | exact Or.inl rfl | exact Or.inr rfl) (My.pe_mkN kn_Book_init_none hr (by decide) rfl (pa_cons (pe_ix (My.ix_tupK (K := K) rfl) (pv 1) pe_int (fun _ _ => rfl)) pa_nil) pk_nil))
  (pss_cons (ps_for PassesOwn.never rfl (pi_range1 (by rfl) T.range (pa_cons pe_int pa_nil)) (pg_name (i := 6) sc_law_made.nd rfl (by first | exact Or.inl rfl | exact Or.inr rfl))
  (pss_one (ps_set (i := 5) sc_law_made.nd rfl (by first | exact Or.inl rfl | exact Or.inr rfl) (C8.pe_mt c_Book_with_rule hr (by decide) (pv 5) (pa_cons (pe_ix (My.ix_listK (K := K) rfl) (pv 4) (pv 6) (fun _ _ => rfl)) (pa_cons (pe_ix (My.ix_tupK (K := K) rfl) (pv 3) (pv 6) (fun _ _ => rfl)) pa_nil))))))
  (pss_one (ps_ret (pv 5)))))
  pss_nil)
  (pss_cons (ps_if (pt_cmpR op_eq (pv 2) pe_int (nomark _))
  (pss_cons (ps_set (i := 7) sc_law_made.nd rfl (by first | exact Or.inl rfl | exact Or.inr rfl) (C8.pe_c c_law_dip hr (by decide) rfl (pa_cons (pv 0) (pa_cons pe_int pa_nil))))
  (pss_cons (ps_set (i := 8) sc_law_made.nd rfl (by first | exact Or.inl rfl | exact Or.inr rfl) (C8.pe_c c_law_book hr (by decide) rfl (pa_cons (pe_tup (pa_cons (pe_ix (My.ix_tupK (K := K) rfl) (pv 1) pe_int (fun _ _ => rfl)) (pa_cons (pe_op (My.catAK (K := K) rfl) (pe_slice (My.sl_tupAK (K := K) rfl) (pv 3) po_none (po_some (pv 7))) (pe_op (My.repAK (K := K) rfl) (pe_tup (pa_cons (pe_tup pa_nil) pa_nil)) (pe_op op_sub pe_int (pv 7)))) pa_nil))) pa_nil)))
  (pss_cons (ps_set (i := 9) sc_law_made.nd rfl (by first | exact Or.inl rfl | exact Or.inr rfl) (C8.pe_c c_law_book hr (by decide) rfl (pa_cons (pe_tup (pa_cons (pe_op op_add pe_int (C8.pe_c c_law_dip hr (by decide) rfl (pa_cons (pv 0) (pa_cons pe_int pa_nil)))) (pa_cons (pe_op (My.catAK (K := K) rfl) (pe_op (My.repAK (K := K) rfl) (pe_tup (pa_cons (pe_tup (pa_cons pe_str pa_nil)) pa_nil)) (pv 7)) (pe_slice (My.sl_tupAK (K := K) rfl) (pv 3) (po_some (pv 7)) po_none)) pa_nil))) pa_nil)))
  (pss_one (ps_ret (C8.pe_mt c_Book_taking hr (by decide) (pv 8) (pa_cons (pv 9) (pa_cons (pe_callTy (My.tuple_ofK (K := K) rfl) (by rfl) T.tuple (by decide +kernel) (pa_cons (My.pe_revLK (K := K) rfl (pe_slice (My.sl_listK (K := K) rfl) (pv 4) (po_some (pv 7)) po_none)) pa_nil)) pa_nil))))))))
  pss_nil)
  (pss_cons (ps_if (pt_cmpR op_eq (pv 2) pe_int (nomark _))
  (pss_one (ps_ret (C8.pe_mt c_Book_with_days hr (by decide) (C8.pe_c c_law_book hr (by decide) rfl (pa_cons (pe_tup (pa_cons (pe_op op_add pe_int (C8.pe_c c_law_dip hr (by decide) rfl (pa_cons (pv 0) (pa_cons pe_int pa_nil)))) (pa_cons (pv 3) pa_nil))) pa_nil)) (pa_cons (pe_ix (My.ix_tupK (K := K) rfl) (pv 1) pe_int (fun _ _ => rfl)) pa_nil))))
  pss_nil)
  (pss_one (ps_ret (C8.pe_c c_law_book hr (by decide) rfl (pa_cons (pv 1) pa_nil)))))))))), ?_⟩
    have lt100 : ∀ m : Nat, m ≤ 60000 → m < 2 ^ 100 := fun m h => Nat.lt_of_le_of_lt h (by decide)
    refine ⟨_, rfl, a, n, 4, rfl, hs, lt100 _ (by omega), by decide, by decide, fun H1 way b1 s1 w0 w1 => ?_⟩
    have hp1 := hp.draw b1 hs
    obtain ⟨t, as, hp2, ht2, h3⟩ := id hp1
    refine ⟨_, rfl, p, _, 1, _, rfl, rfl, hp2, rfl, rfl, fun wl hwl => ⟨_, _, _, rfl, ?_⟩⟩
    have yw := same_new (o := .lst (moms.map V.str)) hwl
    have hw1 : upd H1 wl (.lst (moms.map V.str)) wl = some (.lst (moms.map V.str)) := upd_same
    have hp3 := hp1.same yw
    have hp2 := same_tup yw hp2
    have ht2 := same_tup yw ht2
    have h3 := paired_map (fun _ _ _ x => same_tup yw x) h3
    have s2 := s1.same yw
    have b2 := b1.trans (But.of yw)
    show Ends.nx _ [some (.ref a), some (.ref p), some (.int way), some (.ref t), some (.ref wl), none, none, none, none, none] (upd H1 wl (.lst (moms.map V.str)))
    generalize upd H1 wl (.lst (moms.map V.str)) = H2 at hw1 hp3 hp2 ht2 h3 s2 b2
    refine ⟨_, rfl, rfl, _, rfl, L2.ite2 (fun c => ?_) (fun _ => ?_)⟩
    · clear c
      refine ⟨_, rfl, p, _, 0, _, rfl, rfl, hp2, rfl, rfl, rfl, ?_⟩
      intro x dx nx ndx nex
      have t0 : Same H2 (upd (upd H2 dx (.own x)) x (.ins (He.ga K "Book") dx [])) := (same_new ndx).trans (same_upd (Same.refl _) (by rw [upd_ne nex.symm]; exact nx))
      have pre : ∀ HH : Hp, Paired (RuleAt K HH) [He.dflAt ("Book", some "__init__") 0 K, He.dflAt ("Book", some "__init__") 1 K, He.dflAt ("Book", some "__init__") 2 K, He.dflAt ("Book", some "__init__") 3 K, He.dflAt ("Book", some "__init__") 4 K, He.dflAt ("Book", some "__init__") 5 K, He.dflAt ("Book", some "__init__") 6 K, He.dflAt ("Book", some "__init__") 7 K] [[], [], [], [], [], [], [], []] := fun HH =>
        .cons (T.dfl_Book_init_0 _) (.cons (T.dfl_Book_init_1 _) (.cons (T.dfl_Book_init_2 _) (.cons (T.dfl_Book_init_3 _) (.cons (T.dfl_Book_init_4 _) (.cons (T.dfl_Book_init_5 _) (.cons (T.dfl_Book_init_6 _) (.cons (T.dfl_Book_init_7 _) .nil)))))))
      refine ⟨x, dx, d, _, [[], [], [], [], [], [], [], []], rfl, upd_same, h1, h2, pre _, rfl, fun r hr => by rw [List.eq_of_mem_replicate (n := 8) (a := ([] : RuleL)) hr]; exact good_nil, fun H3 t2 bt hx ht => ⟨rfl, ?_⟩⟩
      have t1 : Same H2 H3 := fun c o e => bt c o (by simpa using ne_of_none e nx) (t0 _ _ e)
      have hM : BookAt K H3 x d [[], [], [], [], [], [], [], []] := ⟨dx, t2, _, hx, SqT.of ht, pre _, rfl⟩
      refine ⟨8, rfl, by decide, by decide, ?_⟩
      refine for_range (n := (8 : Int).toNat) (fun i σ H' => ∃ (b : Addr) (o6 : Option V), σ = [some (.ref a), some (.ref p), some (.int way), some (.ref t), some (.ref wl), some (.ref b), o6, none, none, none] ∧ Same H2 H' ∧ BookAt K H' b d (rs.take i ++ List.replicate (8 - i) [])) ⟨x, none, rfl, t1, hM⟩ ?_ ?_
      · rintro i σ H4 hi ⟨b, o6, rfl, s4, hB⟩
        have hi8 : i < 8 := hi
        have hr := hg.get hi8
        obtain ⟨ai, hai, hra⟩ := paired_get h3 hr
        obtain ⟨m, hm⟩ : ∃ m, moms[i]? = some m := ⟨_, List.getElem?_eq_getElem (show i < moms.length from hi8)⟩
        have e0 : (0 : Int) + (i : Int) = (i : Int) := by omega
        obtain ⟨dxb, tb, ab, hbb, _⟩ := id hB
        have gb : ∀ r ∈ rs.take i ++ List.replicate (8 - i) [], GoodRule r := fun r hr => by
          rcases List.mem_append.mp hr with z | z
          · exact hg.good _ (List.mem_of_mem_take z)
          · rw [List.eq_of_mem_replicate z]; exact good_nil
        refine ⟨_, rfl, b, dxb, _, rfl, hbb, rfl, _, rfl, _, rfl, wl, _, _, _, rfl, rfl, SqL.of (s4 _ _ hw1), by rw [e0]; exact atI_nat (by rw [List.getElem?_map, hm]; rfl), _, rfl, _, rfl, t, _, _, _, rfl, rfl, same_tup s4 ht2, by rw [e0]; exact atI_nat (by rw [List.getElem?_map, hai]; rfl), ?_⟩
        refine ⟨b, ai, d, _, m, i, at_ rs i, rfl, hB, hm, same_tup s4 hra, hg.good _ (List.mem_of_getElem? hr), gb, h1, h2, fun H5 b5 _ s5 hB5 => ?_⟩
        rw [set_next hg.len hi8 hr] at hB5
        exact ⟨b5, _, rfl, s4.trans s5, hB5⟩
      · rintro σ H4 ⟨b, o6, rfl, s4, hB⟩
        have e8 : rs.take 8 ++ List.replicate (8 - 8) [] = rs := by
          rw [List.take_of_length_le (by rw [hg.len]; exact Nat.le_refl _)]
          exact List.append_nil _
        have hB8 : BookAt K H4 b d (rs.take 8 ++ List.replicate (8 - 8) []) := hB
        rw [e8] at hB8
        exact ⟨_, rfl, q _ b (b2.trans (But.of s4)) ((s2.same s4).mono (by omega)) hB8⟩
    refine ⟨_, rfl, rfl, _, rfl, L2.ite2 (fun c => ?_) (fun _ => ?_)⟩
    · clear c
      refine ⟨_, rfl, a, n + 1, 9, rfl, s2, lt100 _ (by omega), by decide, by decide, fun H3 spot b3 s3 k0 k1 => ?_⟩
      obtain ⟨i, hi, rfl⟩ : ∃ i : Nat, i < 9 ∧ spot = (i : Int) := ⟨spot.toNat, by omega, by omega⟩
      have hp3 := But.tupS b3 s2 hp2
      have ht3 := But.tupS b3 s2 ht2
      have h33 := paired_map (fun _ _ _ x => But.tupS b3 s2 x) h3
      have hw3 := rawS b3 s2 hw1 (strs_no _)
      have b03 := b2.trans b3
      show Ends.nx _ [some (.ref a), some (.ref p), some (.int way), some (.ref t), some (.ref wl), none, none, some (.int (i : Int)), none, none] H3
      refine ⟨_, rfl, p, _, 0, _, rfl, rfl, hp3, rfl, _, rfl, _, rfl, _, rfl, ?_⟩
      refine slA_to ht3 fun m1 H4 z4 hm1 => ?_
      refine ⟨Nat.zero_le _, fun e he => ⟨by show 1 ≤ sizeLine; decide, fun g hg' => ⟨_, rfl, _, _, rfl, rfl, ?_⟩⟩⟩
      have ye := same_new (o := .tup []) he
      have yg := same_new (o := .tup [V.ref e]) hg'
      have re : RuleAt K (upd (upd H4 e (.tup [])) g (.tup [.ref e])) e [] := SqT.of (yg _ _ upd_same)
      have e8 : (8 : Int) - (i : Int) = ((8 - i : Nat) : Int) := by omega
      refine repA_of2 e8 (SqT.of upd_same) (fun z => by cases z) (by omega) (by show 1 ≤ 1000; decide) fun m2 H5 z5 hm2 => ?_
      have f1 : (List.replicate (8 - i) [V.ref e]).flatten = (List.replicate (8 - i) e).map V.ref := by rw [flat_one, List.map_replicate]
      rw [f1] at hm2
      have zz := (ye.trans yg).trans z5
      have hm1b := same_tup zz hm1
      have al8 : as.length = 8 := h3.length.trans hg.len
      refine catA_of hm1b hm2 ?_ fun m3 H6 z6 hm3 => ?_
      · rw [List.length_take, List.length_map, List.length_map, List.length_replicate]
        exact Nat.le_of_lt (lt_line (by omega))
      have z46 := zz.trans z6
      have z36 := z4.trans z46
      have e3 : (as.map V.ref).take i ++ (List.replicate (8 - i) e).map V.ref = (as.take i ++ List.replicate (8 - i) e).map V.ref := by rw [List.map_append, List.map_take]
      rw [e3] at hm3
      refine ⟨by show 2 ≤ sizeLine; decide, fun pl hpl => ?_⟩
      have yp := same_new (o := .tup [.int d, .ref m3]) hpl
      have g1 : GoodB (rs.take i ++ List.replicate (8 - i) []) := ⟨by rw [List.length_append, List.length_take, List.length_replicate, hg.len]; omega, fun r hr => by
        rcases List.mem_append.mp hr with z | z
        · exact hg.good _ (List.mem_of_mem_take z)
        · rw [List.eq_of_mem_replicate z]; exact good_nil⟩
      have pa1 : PlanAt K (upd H6 pl (.tup [.int d, .ref m3])) pl d (rs.take i ++ List.replicate (8 - i) []) :=
        ⟨m3, _, SqT.of upd_same, same_tup yp hm3, paired_app (paired_take i (paired_map (fun _ _ _ x => same_tup (z36.trans yp) x) h33)) (paired_rep (show RuleAt K _ e [] from same_tup yp (same_tup z6 (same_tup z5 re))) _)⟩
      have z37 := z36.trans yp
      have s7 := s3.same z37
      refine ⟨pl, d, _, rfl, pa1, g1, h1, h2, fun H8 bo hbo z8 hBo => ?_⟩
      have s8 := s7.same z8
      have z38 := z37.trans z8
      show Ends.nx _ [some (.ref a), some (.ref p), some (.int way), some (.ref t), some (.ref wl), none, none, some (.int (i : Int)), some (.ref bo), none] H8
      refine ⟨_, rfl, a, n + 2, 30, rfl, s8, lt100 _ (by omega), by decide, by decide, fun H9 k b9 s9 kk0 kk1 => ⟨_, _, rfl, rfl, ?_⟩⟩
      refine ⟨by show 1 ≤ sizeLine; decide, fun e2 he2 => ⟨by show 1 ≤ sizeLine; decide, fun g2 hg2 => ?_⟩⟩
      have ye2 := same_new (o := .tup [V.str "off"]) he2
      have yg2 := same_new (o := .tup [V.ref e2]) hg2
      have re2 : RuleAt K (upd (upd H9 e2 (.tup [.str "off"])) g2 (.tup [.ref e2])) e2 ["off"] := SqT.of (yg2 _ _ upd_same)
      refine ⟨_, rfl, ?_⟩
      refine repA_of (SqT.of upd_same) (fun z => by cases z) (by omega) (by show 1 ≤ 1000; decide) fun m4 H10 z10 hm4 => ?_
      have f2 : (List.replicate i [V.ref e2]).flatten = (List.replicate i e2).map V.ref := by rw [flat_one, List.map_replicate]
      rw [f2] at hm4
      have z910 := (ye2.trans yg2).trans z10
      have ht10 := same_tup z910 (But.tupS b9 s8 (same_tup z38 ht3))
      refine ⟨_, rfl, _, rfl, _, rfl, ?_⟩
      refine slA_from ht10 fun m5 H11 z11 hm5 => ?_
      refine catA_of (same_tup z11 hm4) hm5 ?_ fun m6 H12 z12 hm6 => ?_
      · rw [List.length_drop, List.length_map, List.length_map, List.length_replicate]
        exact Nat.le_of_lt (lt_line (by omega))
      have e4 : (List.replicate i e2).map V.ref ++ (as.map V.ref).drop i = (List.replicate i e2 ++ as.drop i).map V.ref := by rw [List.map_append, List.map_drop]
      rw [e4] at hm6
      refine ⟨by show 2 ≤ sizeLine; decide, fun pl2 hpl2 => ?_⟩
      have yp2 := same_new (o := .tup [.int (1 + k), .ref m6]) hpl2
      have z912 := (z910.trans z11).trans z12
      have z913 := z912.trans yp2
      have g2' : GoodB (List.replicate i (["off"] : RuleL) ++ rs.drop i) := ⟨by rw [List.length_append, List.length_drop, List.length_replicate, hg.len]; omega, fun r hr => by
        rcases List.mem_append.mp hr with z | z
        · rw [List.eq_of_mem_replicate z]; exact good_off
        · exact hg.good _ (List.mem_of_mem_drop z)⟩
      have h9 : Paired (RuleAt K H9) as rs := paired_map (fun _ _ _ x => But.tupS b9 s8 (same_tup z38 x)) h33
      have pa2 : PlanAt K (upd H12 pl2 (.tup [.int (1 + k), .ref m6])) pl2 (1 + k) (List.replicate i (["off"] : RuleL) ++ rs.drop i) :=
        ⟨m6, _, SqT.of upd_same, same_tup yp2 hm6, paired_app (paired_rep (show RuleAt K _ e2 ["off"] from same_tup yp2 (same_tup z12 (same_tup z11 (same_tup z10 re2)))) _) (paired_drop i (paired_map (fun _ _ _ x => same_tup z913 x) h9))⟩
      refine ⟨pl2, 1 + k, _, rfl, pa2, g2', by omega, by omega, fun H14 bt hbt z14 hBt => ?_⟩
      have hBo9 : BookAt K H9 bo d (rs.take i ++ List.replicate (8 - i) []) := by
        obtain ⟨dx, u, qs, q1, q2, q3, q4⟩ := hBo
        exact ⟨dx, u, qs, rawS b9 s8 q1 (fun _ _ z => by cases z), But.tupS b9 s8 q2, paired_map (fun x y _ hx => But.tupS b9 s8 hx) q3, q4⟩
      have z914 := z913.trans z14
      have hBo14 := hBo9.same z914
      have hw14 := z914 _ _ (rawS b9 s8 (z38 _ _ hw3) (strs_no _))
      show Ends.nx _ [some (.ref a), some (.ref p), some (.int way), some (.ref t), some (.ref wl), none, none, some (.int (i : Int)), some (.ref bo), some (.ref bt)] H14
      obtain ⟨dxo, _, _, hbo1, _⟩ := id hBo14
      refine ⟨_, rfl, bo, dxo, _, rfl, hbo1, rfl, _, rfl, _, rfl, _, rfl, _, rfl, wl, _, rfl, SqL.of hw14, fun q1 hq1 => ?_⟩
      have y1 := same_new (o := .lst (cutV (moms.map V.str) (some (i : Int)) none)) hq1
      refine ⟨q1, _, rfl, SqL.of upd_same, fun q2 hq2 => ?_⟩
      have y2 := same_new (o := .lst (cutV (moms.map V.str) (some (i : Int)) none).reverse) hq2
      refine ⟨q2, _, rfl, .inl ⟨SqL.of upd_same, fun m7 hm7 => ?_⟩⟩
      have y3 := same_new (o := .tup (cutV (moms.map V.str) (some (i : Int)) none).reverse) hm7
      have yy := (y1.trans y2).trans y3
      have em : (cutV (moms.map V.str) (some (i : Int)) none).reverse = ((moms.drop i).reverse).map V.str := by rw [cut_from, List.map_reverse, List.map_drop]
      refine ⟨bo, bt, m7, d, 1 + k, _, _, (moms.drop i).reverse, rfl, hBo14.same yy, hBt.same yy, g1, g2', by rw [← em]; exact SqT.of upd_same, (List.reverse_perm _).nodup_iff.mpr ((List.drop_sublist i moms).nodup (by decide +kernel)), by rw [List.length_reverse, List.length_drop]; exact Nat.le_trans (Nat.sub_le _ _) (by decide), fun z hz => List.mem_of_mem_drop (List.mem_reverse.mp hz), h1, h2, fun H16 bf hbf z16 hBf => ?_⟩
      obtain ⟨r0, r1, r2, r3, r4, r5, r6, r7, erb⟩ := len8r hg.len
      have ef : takeR (moms.drop i).reverse (rs.take i ++ List.replicate (8 - i) []) (List.replicate i (["off"] : RuleL) ++ rs.drop i) = rs := by rw [erb]; exact made_one hi
      rw [ef] at hBf
      have s9' := s9.same ((z914.trans yy).trans z16)
      exact q _ bf (((b03.trans (But.of z38)).trans b9).trans (But.of ((z914.trans yy).trans z16))) (s9'.mono (by omega)) hBf
    refine ⟨_, rfl, rfl, _, rfl, L2.ite2 (fun c => ?_) (fun _ => ?_)⟩
    · clear c
      refine ⟨_, rfl, a, n + 1, 30, rfl, s2, lt100 _ (by omega), by decide, by decide, fun H3 k b3 s3 k0 k1 => ⟨_, _, rfl, rfl, _, rfl, by show 2 ≤ sizeLine; decide, fun m hm => ?_⟩⟩
      have ym := same_new (o := .tup [.int (1 + k), .ref t]) hm
      have ht3 := same_tup ym (But.tupS b3 s2 ht2)
      have hp3 := same_tup ym (But.tupS b3 s2 hp2)
      have h33 := paired_map (fun _ _ _ x => same_tup ym (But.tupS b3 s2 x)) h3
      refine ⟨m, 1 + k, rs, rfl, ⟨t, as, SqT.of upd_same, ht3, h33⟩, hg, by omega, by omega, fun H5 b hb s5 hB => ?_⟩
      obtain ⟨dxb, tb, ab, hbb, _⟩ := id hB
      refine ⟨b, dxb, _, rfl, hbb, rfl, _, rfl, p, _, 0, _, rfl, rfl, same_tup s5 hp3, rfl, ?_⟩
      refine ⟨b, 1 + k, d, rs, rfl, hB, hg, h1, h2, fun H6 b2' hb2 s6 hB2 => ?_⟩
      have ss := (ym.trans s5).trans s6
      exact q _ b2' ((b2.trans b3).trans (But.of ss)) ((s3.same ss).mono (by omega)) hB2
    refine ⟨_, rfl, p, d, rs, rfl, hp3, hg, h1, h2, fun H3 b hb s3 hB => ?_⟩
    exact q _ b (b2.trans (But.of s3)) ((s2.same s3).mono (by omega)) hB
theorem c_law_made (T : Txt w K mg) : C8.Cal P w K mg base 6 "_law_made" (sp_law_made K) [] := by
  obtain ⟨fd, F⟩ := T.f_law_made
  exact ⟨_, fd, _, _, ok_law_made T F, T.g_law_made, F.kp, F.bindsN (fun _ _ _ _ _ _ us hl => match us, hl with | [_, _], _ => rfl), .nil⟩
end
end K15

namespace K15
open PySem PySem.Spec PyProof.Rows L2 My StX
/-! ### the text of a book -/
def lineS (m : Str) (r : RuleL) : Str := Txt.join " " ((m ++ ":") :: r)
def linesN (n : Nat) (rs : List RuleL) : List Str := (List.range n).map fun i => lineS (moms.getD i Str.empty) (at_ rs i)
def linesS (d : Int) (rs : List RuleL) : List Str := ("days " ++ numS d) :: linesN 8 rs
def bookS (d : Int) (rs : List RuleL) : Str := Txt.join "\n" (linesS d rs)
theorem linesN_more (n : Nat) (rs : List RuleL) : linesN (n + 1) rs = linesN n rs ++ [lineS (moms.getD n Str.empty) (at_ rs n)] := by
  unfold linesN
  rw [List.range_succ, List.map_append]
  rfl
theorem joinL_len (a : List Nat) : ∀ ys : List (List Nat), (TL.joinL a ys).length ≤ (ys.map (·.length)).sum + ys.length * a.length
  | [] => Nat.zero_le _
  | [y] => by
    show y.length ≤ y.length + 0 + 1 * a.length
    omega
  | y :: z :: r => by
    have ih := joinL_len a (z :: r)
    show (y ++ (a ++ TL.joinL a (z :: r))).length ≤ y.length + ((z :: r).map (·.length)).sum + ((z :: r).length + 1) * a.length
    rw [List.length_append, List.length_append, Nat.add_mul]
    omega
theorem join_len (a : Str) (ys : List Str) : (Txt.join a ys).length ≤ (ys.map (·.length)).sum + ys.length * a.length := by
  have e : (ys.map TL.tl).map (·.length) = ys.map (·.length) := by
    rw [List.map_map]
    exact List.map_congr_left fun x _ => (len_tl x).symm
  have h := joinL_len (TL.tl a) (ys.map TL.tl)
  rw [e, List.length_map, ← len_tl] at h
  rw [len_tl, TL.join_eq, TL.tl_join]
  exact h
theorem act_len : ∀ x ∈ acts, x.length ≤ 4 := by decide +kernel
theorem mom_len (i : Nat) : (moms.getD i Str.empty).length ≤ 6 := by
  have h : ∀ x ∈ moms, x.length ≤ 6 := by decide +kernel
  rw [List.getD_eq_getElem?_getD]
  cases e : moms[i]? with
  | none => exact Nat.zero_le _
  | some x => exact h x (List.mem_of_getElem? e)
theorem rule_sum : ∀ {r : RuleL}, (∀ x ∈ r, x ∈ acts) → (r.map (·.length)).sum ≤ 4 * r.length
  | [], _ => Nat.le_refl _
  | x :: r, h => by
    have h1 := act_len x (h x (List.mem_cons_self ..))
    have h2 := rule_sum (r := r) fun y hy => h y (List.mem_cons_of_mem _ hy)
    show x.length + (r.map (·.length)).sum ≤ 4 * (r.length + 1)
    omega
theorem colon_len {m : Str} (h : m.length ≤ 6) : (m ++ ":").length ≤ 7 := app_len 6 1 h (by decide +kernel)
theorem line_pre {m : Str} {r : RuleL} (hm : m.length ≤ 6) (hr : GoodRule r) : (((m ++ ":") :: r).map (·.length)).sum + ((m ++ ":") :: r).length * (" " : Str).length ≤ 40 := by
  have h1 := colon_len hm
  have h2 := rule_sum hr.2
  have h3 := hr.1
  have e : (" " : Str).length = 1 := by decide +kernel
  rw [e]
  show (m ++ ":").length + (r.map (·.length)).sum + (r.length + 1) * 1 ≤ 40
  omega
theorem lineS_len {m : Str} {r : RuleL} (hm : m.length ≤ 6) (hr : GoodRule r) : (lineS m r).length ≤ 40 := Nat.le_trans (join_len _ _) (line_pre hm hr)
theorem linesN_sum {rs : List RuleL} (hg : GoodB rs) : ∀ n : Nat, n ≤ 8 → ((linesN n rs).map (·.length)).sum ≤ 40 * n
  | 0, _ => Nat.le_refl _
  | n + 1, h => by
    have h1 := linesN_sum hg n (by omega)
    have h2 := lineS_len (mom_len n) (hg.good _ (List.mem_of_getElem? (hg.get (i := n) (by omega))))
    rw [linesN_more, List.map_append, List.sum_append]
    show _ + ((lineS (moms.getD n Str.empty) (at_ rs n)).length + 0) ≤ _
    omega
theorem linesN_len (n : Nat) (rs : List RuleL) : (linesN n rs).length = n := by
  unfold linesN
  rw [List.length_map, List.length_range]
theorem days_len {d : Int} (h1 : 1 ≤ d) (h2 : d ≤ 30) : ("days " ++ numS d).length ≤ 16 := app_len 5 11 (by decide +kernel) (num_len ⟨h1, by omega⟩)
theorem book_pre {d : Int} {rs : List RuleL} (hg : GoodB rs) (h1 : 1 ≤ d) (h2 : d ≤ 30) : ((linesS d rs).map (·.length)).sum + (linesS d rs).length * ("\n" : Str).length ≤ 16777216 := by
  have e : ("\n" : Str).length = 1 := by decide +kernel
  have a := days_len h1 h2
  have b := linesN_sum hg 8 (by decide)
  have c := linesN_len 8 rs
  rw [e]
  show ("days " ++ numS d).length + ((linesN 8 rs).map (·.length)).sum + ((linesN 8 rs).length + 1) * 1 ≤ _
  omega
section
variable {P : Program} {w : World} {K : PySem.W.Frag} {mg : Str → Option Value} {base : Heap}
def sp_Book_rules (K : PySem.W.Frag) : Sp := fun vs H Q _ => ∃ (b : Addr) (d : Int) (rs : List RuleL), vs = [.ref b] ∧ BookAt K H b d rs ∧ ∀ t as, SqT K H t (as.map V.ref) → Paired (RuleAt K H) as rs → Q (.ref t) H
set_option maxHeartbeats 2000000 in
theorem ok_Book_rules (T : Txt w K mg) {fd : FuncData} (F : FunD K d_Book_rules.name d_Book_rules.qual d_Book_rules.params d_Book_rules.body d_Book_rules.scope (d_Book_rules.dvs K) (d_Book_rules.kws K) (He.fAd K d_Book_rules.at_) fd) : FnOk P w K mg base C8.CX0 1 (He.fAd K d_Book_rules.at_) fd ["self"] (sp_Book_rules K) := by
  refine F.ok sc_Book_rules (fun vs H Q E h => ?_) (fun cdv A outer s H vs Q E hr h => ?_)
  · obtain ⟨b, d, rs, rfl, _⟩ := h
    rfl
  · have hu := L2.hu_of hr
    obtain ⟨b, d, rs, rfl, ⟨dx, t, as, hb, ht, h3, _⟩, q⟩ := h
    refine ⟨_, (PSs.nox ((pss_one (ps_ret (My.pe_fldK (K := K) rfl (pv 0) rfl))))), ?_⟩
    exact ⟨_, rfl, b, _, dx, _, _, rfl, hb, T.cl_Book, T.no_Book__rules, rfl, q t as ht h3⟩
theorem c_Book_rules (T : Txt w K mg) : C8.Met P w K mg base 1 (He.ga K "Book") "rules" (sp_Book_rules K) [] := by
  obtain ⟨fd, F⟩ := T.f_Book_rules
  exact ⟨_, fd, _, _, T.cl_Book, T.m_Book_rules, ok_Book_rules T F, F.bindsN (fun _ _ _ _ _ _ us hl => match us, hl with | [_], _ => rfl), .nil⟩
def sp_book_text (K : PySem.W.Frag) : Sp := fun vs H Q _ => ∃ (b : Addr) (d : Int) (rs : List RuleL), vs = [.ref b] ∧ BookAt K H b d rs ∧ GoodB rs ∧ 1 ≤ d ∧ d ≤ 30 ∧ ∀ H', Same H H' → Q (.str (bookS d rs)) H'
set_option maxHeartbeats 2000000 in
theorem ok_book_text (T : Txt w K mg) {fd : FuncData} (F : FunD K d_book_text.name d_book_text.qual d_book_text.params d_book_text.body d_book_text.scope (d_book_text.dvs K) (d_book_text.kws K) (He.fAd K d_book_text.at_) fd) : FnOk P w K mg base C8.CX0 2 (He.fAd K d_book_text.at_) fd ["book"] (sp_book_text K) := by
  have c_Book_rules := c_Book_rules (P := P) (w := w) (base := base) T
  have c_Book_days := c_Book_days (P := P) (w := w) (base := base) T
  refine F.ok sc_book_text (fun vs H Q E h => ?_) (fun cdv A outer s H vs Q E hr h => ?_)
  · obtain ⟨b, d, rs, rfl, _⟩ := h
    rfl
  · have hu := L2.hu_of hr
    obtain ⟨b, d, rs, rfl, hB, hg, h1, h2, q⟩ := h
    refine ⟨_, (PSs.nox ((pss_cons (ps_set (i := 1) sc_book_text.nd rfl (by first | exact Or.inl rfl | exact Or.inr rfl) (pe_lst (pa_cons (pe_op op_add_str pe_str (pe_callTy call_str_int (by rfl) T.str (by decide +kernel) (pa_cons (C8.pe_mt0 c_Book_days hr (by decide) (pv 0)) pa_nil))) pa_nil)))
  (pss_cons (ps_for PassesOwn.never rfl (RZ.pi_zipA (by rfl) T.zip (pa_cons (pe_glob (v := .ref (He.ga K "MOMENTS")) rfl T.g_MOMENTS rfl) (pa_cons (C8.pe_mt0 c_Book_rules hr (by decide) (pv 0)) pa_nil))) (My.pg_tupK (K := K) (n := 2) rfl rfl (pgs_cons (pg_name (i := 2) sc_book_text.nd rfl (by first | exact Or.inl rfl | exact Or.inr rfl)) (pgs_cons (pg_name (i := 3) sc_book_text.nd rfl (by first | exact Or.inl rfl | exact Or.inr rfl)) pgs_nil)))
  (pss_one (ps_expr (My.pe_bmK (K := K) rfl PySem.F.plainAttrs_list PySem.F.slot_list_append PySem.F.type_list_append mt_append (pv 1) (pa_cons (My.pe_joinK (K := K) rfl pe_str (pe_lst (pa_cons (pe_op op_add_str (pv 2) pe_str) (My.pa_starK (K := K) rfl (pv 3) pa_nil)))) pa_nil)))))
  (pss_one (ps_ret (My.pe_joinK (K := K) rfl pe_str (pv 1)))))))), ?_⟩
    obtain ⟨dx, _, _, hb, _⟩ := id hB
    have hd := num_len (p := d) ⟨h1, by omega⟩
    refine ⟨_, rfl, b, dx, _, rfl, hb, rfl, b, d, rs, rfl, hB, d, rfl, num_log ⟨h1, by omega⟩, ?_⟩
    refine ⟨_, _, rfl, rfl, cat_ok 5 11 (by decide +kernel) hd, by show 1 ≤ sizeLine; decide, fun L hL => ?_⟩
    have yL := same_new (o := .lst [.str ("days " ++ Str.ofString (toString d))]) hL
    have hB1 := hB.same yL
    refine ⟨_, rfl, b, dx, _, rfl, yL _ _ hb, rfl, b, d, rs, rfl, hB1, fun t as ht h3 => ?_⟩
    have al8 : as.length = 8 := h3.length.trans hg.len
    have mem : ∀ {i : Nat} {x : Str}, moms[i]? = some x → moms.getD i Str.empty = x := fun e => by rw [List.getD_eq_getElem?_getD, e]; rfl
    have hL1 : upd H L (.lst [.str ("days " ++ Str.ofString (toString d))]) L = some (.lst [.str ("days " ++ numS d)]) := upd_same
    generalize upd H L (.lst [.str ("days " ++ Str.ofString (toString d))]) = H1 at ht h3 yL hB1 hL1
    refine ⟨_, _, moms.map V.str, as.map V.ref, rfl, .inr ⟨T.tup_MOMENTS _, ht, ?_⟩⟩
    refine RZ.for_zipT (K := K) (xs := moms.map V.str) (ys := as.map V.ref) (by rw [List.length_map, List.length_map, al8]; rfl) (fun i σ H' => ∃ u v, σ = [some (.ref b), some (.ref L), u, v] ∧ But [L] H1 H' ∧ Same H H' ∧ H' L = some (.lst ((("days " ++ numS d) :: linesN i rs).map V.str)))
      ⟨_, _, rfl, But.refl _ _, yL, hL1⟩ (fun i σ H' ⟨_, _, _, s, _⟩ => ⟨T.tup_MOMENTS _, tup_but s hL1 ht⟩) ?_ ?_
    · rintro i x y T2 σ H2 hx hy ⟨u, v, rfl, b2, s2, hL2⟩ hT2
      obtain ⟨m, hm, rfl⟩ := map_get hx
      obtain ⟨a, ha, rfl⟩ := map_get hy
      have hi8 : i < 8 := by
        have := (List.getElem?_eq_some_iff.mp ha).1
        omega
      obtain ⟨r, hr, hra⟩ := paired_at h3 ha
      have er := hg.get hi8
      rw [hr] at er
      have er := Option.some.inj er
      have gr := hg.good _ (List.mem_of_getElem? hr)
      have ml : m.length ≤ 6 := by rw [← mem hm]; exact mom_len i
      have yT := same_new (o := .tup [.str m, .ref a]) hT2
      have ra : RuleAt K (upd H2 T2 (.tup [.str m, .ref a])) a r := same_tup yT (tup_but b2 hL1 hra)
      refine ⟨_, _, rfl, SqT.of upd_same, rfl, _, _, rfl, _, _, rfl, rfl, ?_⟩
      refine ⟨_, rfl, .inl ⟨rfl, _, SqL.of (yT _ _ hL2)⟩, ⟨_, rfl⟩, _, rfl, _, _, rfl, rfl, cat_ok 6 1 ml (by decide +kernel), _, rfl, a, _, rfl, .inl ra, ?_⟩
      have en : (r.map V.str ++ ([] : List V)) = r.map V.str := List.append_nil _
      refine ⟨by
        show (V.str (m ++ ":") :: (r.map V.str ++ [])).length ≤ sizeLine
        rw [en, List.length_cons, List.length_map]
        have := gr.1
        exact Nat.le_of_lt (lt_line (by omega)), fun q1 hq1 => ?_⟩
      have yq := same_new (o := .lst (V.str (m ++ ":") :: (r.map V.str ++ []))) hq1
      refine ⟨" ", q1, (m ++ ":") :: r, rfl, rfl, .inl (SqL.of ?_), Nat.le_trans (line_pre ml gr) (by decide), ?_⟩
      · rw [upd_same, en]
        rfl
      refine ⟨L, _, _, rfl, rfl, yq _ _ (yT _ _ hL2), ?_, ?_⟩
      · rw [List.length_map, List.length_cons, linesN_len]
        exact lt_line (by omega)
      have z := yT.trans yq
      have hHL : H L = none := hL
      refine ⟨_, _, rfl, (b2.trans (But.of z)).put (.inr (by simp)), same_upd (s2.trans z) hHL, ?_⟩
      rw [upd_same, linesN_more, mem hm, ← er]
      show _ = some (HO.lst ((("days " ++ numS d) :: (linesN i rs ++ [lineS m r])).map V.str))
      rw [← List.cons_append, List.map_append]
      rfl
    · rintro σ H2 ⟨u, v, rfl, b2, s2, hL2⟩
      refine ⟨⟨_, rfl⟩, _, rfl, "\n", L, linesS d rs, rfl, rfl, .inl (SqL.of hL2), book_pre hg h1 h2, q _ s2⟩
theorem c_book_text (T : Txt w K mg) : C8.Cal P w K mg base 2 "book_text" (sp_book_text K) [] := by
  obtain ⟨fd, F⟩ := T.f_book_text
  exact ⟨_, fd, _, _, ok_book_text T F, T.g_book_text, F.kp, F.bindsN (fun _ _ _ _ _ _ us hl => match us, hl with | [_], _ => rfl), .nil⟩
theorem k_book_text (T : Txt w K mg) : My.CalK1 P w K mg base 2 "book_text" (sp_book_text K) "book" := by
  obtain ⟨fd, F⟩ := T.f_book_text
  exact ⟨_, fd, ok_book_text T F, T.g_book_text, F.kp, My.kw1_of F (fun _ _ _ _ _ _ _ => rfl)⟩
end
end K15

namespace K15
open PySem PySem.Spec PyProof.Rows L2 My StX
/-! ### rules as data -/
def ruleD (r : RuleL) : PyData := .tuple (r.map PyData.str)
def rulesD (rs : List RuleL) : PyData := .tuple (rs.map ruleD)
theorem dp_words {K : PySem.W.Frag} {H : Hp} : ∀ ws : List Str, DpAll K H (ws.map V.str) (ws.map PyData.str)
  | [] => .nil
  | x :: l => .cons (.str x) (dp_words l)
theorem dp_rule {K : PySem.W.Frag} {H : Hp} {a : Addr} {r : RuleL} (h : RuleAt K H a r) : Dp K H (.ref a) (ruleD r) := .tup h (dp_words r)
theorem dp_ruleL {K : PySem.W.Frag} {H : Hp} : ∀ {as : List Addr} {rs : List RuleL}, Paired (RuleAt K H) as rs → DpAll K H (as.map V.ref) (rs.map ruleD)
  | _, _, .nil => .nil
  | _, _, .cons r t => .cons (dp_rule r) (dp_ruleL t)
theorem dp_rules {K : PySem.W.Frag} {H : Hp} {t : Addr} {as : List Addr} {rs : List RuleL} (h : SqT K H t (as.map V.ref)) (h3 : Paired (RuleAt K H) as rs) : Dp K H (.ref t) (rulesD rs) := .tup h (dp_ruleL h3)
theorem act_lay : ∀ x ∈ acts, PyData.canLay0 (.str x) = true := by
  intro x hx
  simp only [acts, List.mem_cons, List.not_mem_nil, or_false] at hx
  rcases hx with rfl | rfl | rfl | rfl | rfl | rfl | rfl <;> decide +kernel
theorem sm_rule {r : RuleL} (h : GoodRule r) : Sm 1 (ruleD r) := sm_tuple fun d hd => by
  obtain ⟨x, hx, rfl⟩ := List.mem_map.mp hd
  exact sok (act_lay x (h.2 x hx))
theorem sm_rules {rs : List RuleL} (h : GoodB rs) : Sm 2 (rulesD rs) := sm_tuple fun d hd => by
  obtain ⟨r, hr, rfl⟩ := List.mem_map.mp hd
  exact sm_rule (h.good r hr)
end K15

namespace K15
open PySem PySem.Spec PyProof.Rows L2 My
/-! ### a number written and read -/
theorem numL_head : ∀ n : Nat, 1 ≤ n → ∃ c r, TL.numL n = c :: r ∧ c ≠ 48 := by
  intro n
  induction n using Nat.strongRecOn with
  | _ n ih =>
    intro h
    by_cases h10 : n < 10
    · exact ⟨48 + n, [], TL.numL_lt h10, by omega⟩
    · obtain ⟨c, r, e, hc⟩ := ih (n / 10) (by omega) (by omega)
      exact ⟨c, r ++ [48 + n % 10], by rw [TL.numL_step (by omega), e]; rfl, hc⟩
theorem numS_nat (n : Nat) : numS (n : Int) = Str.ofString (Nat.repr n) := rfl
theorem numS_tl (n : Nat) : TL.tl (numS (n : Int)) = TL.numL n := TL.tl_num n
theorem starts_no {x : Str} {c : Nat} {r : List Nat} (h : TL.tl x = c :: r) (hc : c ≠ 48) : Txt.startswith x "0" = false := by
  have e : Builtin.Str.subAt x "0" 0 = false := by
    rw [StrLaws.subAt_eq, List.drop_zero]
    show ((TL.tl x).take ("0" : Str).length == TL.tl ("0" : Str)) = false
    have e1 : ("0" : Str).length = 1 := by decide +kernel
    have e2 : TL.tl ("0" : Str) = [48] := by decide +kernel
    rw [h, e1, e2]
    show ([c] == [48]) = false
    exact beq_eq_false_iff_ne.mpr fun z => hc (List.cons.inj z).1
  unfold Txt.startswith
  rw [e, Bool.and_false]
theorem num_le {p m : Int} (h1 : 1 ≤ p) (h2 : p ≤ m) : (numS p).length ≤ (numS m).length := by
  obtain ⟨a, rfl⟩ : ∃ a : Nat, p = (a : Int) := ⟨p.toNat, by omega⟩
  obtain ⟨b, rfl⟩ : ∃ b : Nat, m = (b : Int) := ⟨m.toNat, by omega⟩
  rw [numS_nat, numS_nat, len_of, len_of]
  have hk : 0 < (Nat.repr b).length := by
    have := TL.numL_ne b
    rw [← numS_tl, numS_nat] at this
    have e := len_of (Nat.repr b)
    rw [len_tl] at e
    rw [← e]
    exact List.length_pos_iff.mpr this
  refine (Nat.length_repr_le_iff hk).mpr ?_
  have := (Nat.length_repr_le_iff hk).mp (Nat.le_refl (Nat.repr b).length)
  omega
theorem num_int {p : Int} (h : 1 ≤ p ∧ p ≤ 1000000000) : intText? (numS p) = some p := by
  obtain ⟨a, rfl⟩ : ∃ a : Nat, p = (a : Int) := ⟨p.toNat, by omega⟩
  refine TL.int_num ?_
  have := num_len h
  rw [len_tl, numS_tl] at this
  omega
theorem num_sign {p : Int} (h : 1 ≤ p) : ∀ c ∈ (numS p).cps.toList, c ∈ ("0123456789" : Str).cps.toList := by
  obtain ⟨a, rfl⟩ : ∃ a : Nat, p = (a : Int) := ⟨p.toNat, by omega⟩
  intro c hc
  have h1 : c ∈ TL.numL a := by rw [← numS_tl]; exact hc
  have h2 := TL.numL_digits a c h1
  have e : ("0123456789" : Str).cps.toList = [48, 49, 50, 51, 52, 53, 54, 55, 56, 57] := by decide +kernel
  rw [e]
  simp only [List.mem_cons, List.not_mem_nil, or_false]
  omega
theorem num_no0 {p : Int} (h : 1 ≤ p) : Txt.startswith (numS p) "0" = false := by
  obtain ⟨a, rfl⟩ : ∃ a : Nat, p = (a : Int) := ⟨p.toNat, by omega⟩
  obtain ⟨c, r, e, hc⟩ := numL_head a (by omega)
  exact starts_no (by rw [numS_tl, e]) hc
theorem num_ne {p : Int} (h : 1 ≤ p) : numS p ≠ "" := by
  obtain ⟨a, rfl⟩ : ∃ a : Nat, p = (a : Int) := ⟨p.toNat, by omega⟩
  intro z
  have := numS_tl a
  rw [z] at this
  exact TL.numL_ne a (this.symm.trans (by decide +kernel))
section
variable {P : Program} {w : World} {K : PySem.W.Frag} {mg : Str → Option Value} {base : Heap}
def sp_lines_of (K : PySem.W.Frag) : Sp := fun vs H Q _ => ∃ x : Str, vs = [.str x] ∧ x.length + 2 ≤ sizeLine ∧ ∀ p, H p = none → Q (.ref p) (upd H p (.lst ((Txt.split x "\n").map V.str)))
set_option maxHeartbeats 2000000 in
theorem ok_lines_of (T : Txt w K mg) {fd : FuncData} (F : FunD K d_lines_of.name d_lines_of.qual d_lines_of.params d_lines_of.body d_lines_of.scope (d_lines_of.dvs K) (d_lines_of.kws K) (He.fAd K d_lines_of.at_) fd) : FnOk P w K mg base C8.CX0 1 (He.fAd K d_lines_of.at_) fd ["text"] (sp_lines_of K) := by
  refine F.ok sc_lines_of (fun vs H Q E h => ?_) (fun cdv A outer s H vs Q E hr h => ?_)
  · obtain ⟨x, rfl, _⟩ := h
    rfl
  · have hu := L2.hu_of hr
    obtain ⟨x, rfl, hl, q⟩ := h
    refine ⟨_, (PSs.nox ((pss_cons (ps_if (pt_not (pt_val (pe_callB (My.isiK (K := K) rfl) (by rfl) T.isinstance (by decide +kernel) (pa_cons (pv 0) (pa_cons (pe_bltn (v := .ty "str") (u := .type "str") rfl T.str (by decide +kernel) rfl) pa_nil)))))
  (pss_one ps_never)
  pss_nil)
  (pss_one (ps_ret (pe_split (pv 0) pe_str)))))), ?_⟩
    refine ⟨_, rfl, _, _, _, _, true, rfl, .ty "str", .base (.str _), L2.kit_ty (by decide +kernel), true, rfl, ?_⟩
    exact ⟨_, rfl, ⟨_, rfl⟩, x, "\n", rfl, rfl, by decide +kernel, hl, q⟩
theorem c_lines_of (T : Txt w K mg) : C8.Cal P w K mg base 1 "lines_of" (sp_lines_of K) [] := by
  obtain ⟨fd, F⟩ := T.f_lines_of
  exact ⟨_, fd, _, _, ok_lines_of T F, T.g_lines_of, F.kp, F.bindsN (fun _ _ _ _ _ _ us hl => match us, hl with | [_], _ => rfl), .nil⟩
def sp_read_number (K : PySem.W.Frag) : Sp := fun vs H Q _ => ∃ p m : Int, vs = [.str (numS p), .int m] ∧ 1 ≤ p ∧ p ≤ m ∧ m ≤ 1000000000 ∧ ∀ H', Same H H' → Q (.int p) H'
set_option maxHeartbeats 2000000 in
theorem ok_read_number (T : Txt w K mg) {fd : FuncData} (F : FunD K d_read_number.name d_read_number.qual d_read_number.params d_read_number.body d_read_number.scope (d_read_number.dvs K) (d_read_number.kws K) (He.fAd K d_read_number.at_) fd) : FnOk P w K mg base C8.CX0 1 (He.fAd K d_read_number.at_) fd ["figures", "most"] (sp_read_number K) := by
  obtain ⟨t_FIGURES, g_FIGURES⟩ := T.g_FIGURES
  refine F.ok sc_read_number (fun vs H Q E h => ?_) (fun cdv A outer s H vs Q E hr h => ?_)
  · obtain ⟨p, m, rfl, _⟩ := h
    rfl
  · have hu := L2.hu_of hr
    obtain ⟨p, m, rfl, h1, h2, h3, q⟩ := h
    refine ⟨_, (PSs.nox ((pss_cons (ps_if (PW.pt (pw_or (pt_cmpR op_eq (pv 0) pe_str (nomark _)) (pw_or (pt_val (pe_m1 PySem.F.slot_str_startswith PySem.F.type_str_startswith mt_startswith (pv 0) pe_str)) (pw_or1 (pt_not (pt_val (pe_callB (My.allK (K := K) rfl rfl) (by rfl) T.all (by decide +kernel) (pa_cons (pe_lc (own := [("figure", 2)]) (g := (gName 2)) (tt := tYes) (by rfl) sc_read_number.nd (pi_str (pv 0)) (blkOk_by (N := N_read_number) (sc := defScope s_read_number) (by decide +kernel)) (fun _ _ _ _ _ => (pg_name (i := 2) sc_read_number.nd rfl (by first | exact Or.inl rfl | exact Or.inr rfl))) (fun _ _ _ _ _ => pts_nil) (fun _ _ _ _ _ => (pe_cmpR op_in_sign (pv 2) (pe_glob (v := .str "0123456789") rfl g_FIGURES ⟨_, rfl⟩) (by rfl)))) pa_nil))))))))
  (pss_one (ps_ret pe_non))
  pss_nil)
  (pss_cons (ps_if (PW.pt (pw_or (pt_cmpR op_gt (pe_callB (My.len_anyK (K := K) rfl) (by rfl) T.len (by decide +kernel) (pa_cons (pv 0) pa_nil)) (pe_callB (My.len_anyK (K := K) rfl) (by rfl) T.len (by decide +kernel) (pa_cons (pe_callTy call_str_int (by rfl) T.str (by decide +kernel) (pa_cons (pv 1) pa_nil)) pa_nil)) (nomark _)) (pw_or1 (pt_cmpR op_gt (pe_callTy call_int_str (by rfl) T.int (by decide +kernel) (pa_cons (pv 0) pa_nil)) (pv 1) (nomark _)))))
  (pss_one (ps_ret pe_non))
  pss_nil)
  (pss_one (ps_ret (pe_callTy call_int_str (by rfl) T.int (by decide +kernel) (pa_cons (pv 0) pa_nil)))))))), ?_⟩
    have hp : 1 ≤ p ∧ p ≤ 1000000000 := ⟨h1, by omega⟩
    have hm : 1 ≤ m ∧ m ≤ 1000000000 := ⟨by omega, h3⟩
    refine ⟨_, rfl, rfl, _, rfl, ?_⟩
    rw [decide_eq_false (show ¬ V.str (numS p) = V.str "" from fun z => num_ne h1 (V.str.inj z))]
    refine ⟨_, rfl, ⟨_, rfl⟩, _, _, rfl, rfl, _, rfl, ?_⟩
    rw [num_no0 h1]
    refine ⟨_, rfl, _, rfl, fun D hD => ?_⟩
    refine lc_it (walk_str (z := numS p)) (fun i H' => Same H H' ∧ H' D = some (.lst ((List.replicate i true).map V.bl))) ⟨same_new hD, upd_same⟩ (fun _ _ _ _ => trivial) ?_ ?_
    · rintro i y H2 H3 hi ⟨s2, hD2⟩ ⟨rfl, c, hc, rfl⟩
      refine ⟨rfl, ?_⟩
      have hmem : c ∈ (numS p).cps.toList := by
        have e := Array.getElem?_toList (xs := (numS p).cps) (i := i)
        rw [hc] at e
        exact List.mem_of_getElem? e
      refine ⟨_, rfl, c, "0123456789", rfl, rfl, ?_⟩
      rw [decide_eq_true (num_sign h1 c hmem)]
      have hsz : i < 11 := Nat.lt_of_lt_of_le hi (num_len hp)
      refine ⟨_, hD2, ?_, same_upd s2 hD, ?_⟩
      · rw [List.length_map, List.length_replicate]
        exact lt_line (by omega)
      · rw [upd_same, List.replicate_succ', List.map_append]
        rfl
    rintro H2 ⟨s2, hD2⟩
    refine ⟨D, _, rfl, SqL.of hD2, _, rfl, ?_⟩
    have e2 : (List.replicate (numS p).cps.size true).all id = true := List.all_eq_true.mpr fun x hx => (List.mem_replicate.mp hx).2
    rw [e2]
    have l1 := num_len hp
    have l2 := num_len hm
    have l3 := num_le h1 h2
    refine ⟨_, rfl, _, _, rfl, ⟨Nat.le_of_lt (lt_line (by omega)), rfl⟩, ?_⟩
    refine ⟨_, rfl, m, rfl, num_log hm, V.str (numS m), _, rfl, ⟨Nat.le_of_lt (lt_line (by omega)), rfl⟩, _, _, rfl, rfl, _, rfl, ?_⟩
    rw [decide_eq_false (show ¬ (((numS m).length : Nat) : Int) < (((numS p).length : Nat) : Int) by omega)]
    refine ⟨_, rfl, _, p, rfl, num_int hp, by omega, _, rfl, _, _, rfl, rfl, _, rfl, ?_⟩
    rw [decide_eq_false (show ¬ m < p by omega)]
    exact ⟨_, rfl, _, p, rfl, num_int hp, by omega, q _ s2⟩
theorem c_read_number (T : Txt w K mg) : C8.Cal P w K mg base 1 "read_number" (sp_read_number K) [] := by
  obtain ⟨fd, F⟩ := T.f_read_number
  exact ⟨_, fd, _, _, ok_read_number T F, T.g_read_number, F.kp, F.bindsN (fun _ _ _ _ _ _ us hl => match us, hl with | [_, _], _ => rfl), .nil⟩
end
end K15

namespace K15
open PySem PySem.Spec PyProof.Rows L2 My StX
/-! ### the text of a book, read -/
theorem days_part {d : Int} : Txt.partition ("days " ++ numS d) " " = (("days" : Str), (" " : Str), numS d) := by
  have e : ("days " ++ numS d : Str) = "days" ++ " " ++ numS d := by
    have e2 : ("days " : Str) = "days" ++ " " := by decide +kernel
    rw [e2]
  rw [e]
  exact TL.partition_app (y := " ") (s := 32) (S := []) (by decide +kernel) (by decide +kernel)
theorem words_split {m : Str} {r : RuleL} (hm : m ∈ moms) (hr : GoodRule r) : Txt.split (lineS m r) " " = (m ++ ":") :: r := by
  refine TL.split_join (y := " ") (s := 32) (S := []) (by decide +kernel) (by decide +kernel) (fun z => by cases z) fun p hp => ?_
  rcases List.mem_cons.mp hp with z | z
  · subst z
    rw [TL.tl_append]
    have h1 : ∀ x ∈ moms, 32 ∉ TL.tl x := by decide +kernel
    intro hc
    rcases List.mem_append.mp hc with hc | hc
    · exact h1 m hm hc
    · exact absurd hc (by decide +kernel)
  · have h1 : ∀ x ∈ acts, 32 ∉ TL.tl x := by decide +kernel
    exact h1 p (hr.2 p z)
theorem joinL_free {s : Nat} {S : List Nat} (hS : s ∉ S) : ∀ {ys : List (List Nat)}, (∀ y ∈ ys, s ∉ y) → s ∉ TL.joinL S ys
  | [], _ => fun h => by cases h
  | [y], h => h y (List.mem_cons_self ..)
  | y :: z :: r, h => by
    show s ∉ y ++ (S ++ TL.joinL S (z :: r))
    intro hc
    rcases List.mem_append.mp hc with hc | hc
    · exact h y (List.mem_cons_self ..) hc
    · rcases List.mem_append.mp hc with hc | hc
      · exact hS hc
      · exact joinL_free hS (fun x hx => h x (List.mem_cons_of_mem _ hx)) hc
theorem line_free {m : Str} {r : RuleL} (hm : m ∈ moms) (hr : GoodRule r) : 10 ∉ TL.tl (lineS m r) := by
  unfold lineS
  rw [TL.join_eq, TL.tl_join]
  refine joinL_free (by decide +kernel) fun y hy => ?_
  obtain ⟨p, hp, rfl⟩ := List.mem_map.mp hy
  rcases List.mem_cons.mp hp with z | z
  · subst z
    rw [TL.tl_append]
    have h1 : ∀ x ∈ moms, 10 ∉ TL.tl x := by decide +kernel
    intro hc
    rcases List.mem_append.mp hc with hc | hc
    · exact h1 m hm hc
    · exact absurd hc (by decide +kernel)
  · have h1 : ∀ x ∈ acts, 10 ∉ TL.tl x := by decide +kernel
    exact h1 p (hr.2 p z)
theorem num_free {p : Int} (h : 1 ≤ p) : 10 ∉ TL.tl (numS p) ∧ 32 ∉ TL.tl (numS p) := by
  obtain ⟨a, rfl⟩ : ∃ a : Nat, p = (a : Int) := ⟨p.toNat, by omega⟩
  rw [numS_tl]
  exact ⟨TL.numL_free (by omega), TL.numL_free (by omega)⟩
theorem moms_at {i : Nat} (hi : i < 8) : moms.getD i Str.empty ∈ moms := by
  rw [List.getD_eq_getElem?_getD, List.getElem?_eq_getElem (show i < moms.length from hi)]
  exact List.getElem_mem _
theorem book_split {d : Int} {rs : List RuleL} (hg : GoodB rs) (h1 : 1 ≤ d) : Txt.split (bookS d rs) "\n" = linesS d rs := by
  refine TL.split_join (y := "\n") (s := 10) (S := []) (by decide +kernel) (by decide +kernel) (fun z => by cases z) fun p hp => ?_
  rcases List.mem_cons.mp hp with z | z
  · subst z
    rw [TL.tl_append]
    intro hc
    rcases List.mem_append.mp hc with hc | hc
    · exact absurd hc (by decide +kernel)
    · exact (num_free h1).1 hc
  · obtain ⟨i, hi, rfl⟩ := List.mem_map.mp z
    have hi8 := List.mem_range.mp hi
    exact line_free (moms_at hi8) (hg.good _ (List.mem_of_getElem? (hg.get hi8)))
theorem book_len {d : Int} {rs : List RuleL} (hg : GoodB rs) (h1 : 1 ≤ d) (h2 : d ≤ 30) : (bookS d rs).length ≤ 1000 := by
  have e : ("\n" : Str).length = 1 := by decide +kernel
  have a := days_len h1 h2
  have b := linesN_sum hg 8 (by decide)
  have c := linesN_len 8 rs
  have j := join_len "\n" (linesS d rs)
  rw [e] at j
  have s : ((linesS d rs).map (·.length)).sum = ("days " ++ numS d).length + ((linesN 8 rs).map (·.length)).sum := rfl
  have l : (linesS d rs).length = 9 := by
    show (linesN 8 rs).length + 1 = 9
    rw [c]
  rw [s, l] at j
  show (Txt.join "\n" (linesS d rs)).length ≤ 1000
  omega
section
variable {P : Program} {w : World} {K : PySem.W.Frag} {mg : Str → Option Value} {base : Heap}
def sp_read_days (K : PySem.W.Frag) : Sp := fun vs H Q _ => ∃ d : Int, vs = [.str ("days " ++ numS d)] ∧ 1 ≤ d ∧ d ≤ 30 ∧ ∀ H', Same H H' → Q (.int d) H'
set_option maxHeartbeats 2000000 in
theorem ok_read_days (T : Txt w K mg) {fd : FuncData} (F : FunD K d_read_days.name d_read_days.qual d_read_days.params d_read_days.body d_read_days.scope (d_read_days.dvs K) (d_read_days.kws K) (He.fAd K d_read_days.at_) fd) : FnOk P w K mg base C8.CX0 2 (He.fAd K d_read_days.at_) fd ["line"] (sp_read_days K) := by
  obtain ⟨t_MOST_DAYS, g_MOST_DAYS⟩ := T.g_MOST_DAYS
  have c_read_number := c_read_number (P := P) (w := w) (base := base) T
  refine F.ok sc_read_days (fun vs H Q E h => ?_) (fun cdv A outer s H vs Q E hr h => ?_)
  · obtain ⟨d, rfl, _⟩ := h
    rfl
  · have hu := L2.hu_of hr
    obtain ⟨d, rfl, h1, h2, q⟩ := h
    refine ⟨_, (PSs.nox ((pss_cons (ps_asg (pe_partition (pv 0) pe_str) (My.pg_tupK (K := K) (n := 3) rfl rfl (pgs_cons (pg_name (i := 1) sc_read_days.nd rfl (by first | exact Or.inl rfl | exact Or.inr rfl)) (pgs_cons (pg_name (i := 2) sc_read_days.nd rfl (by first | exact Or.inl rfl | exact Or.inr rfl)) (pgs_cons (pg_name (i := 3) sc_read_days.nd rfl (by first | exact Or.inl rfl | exact Or.inr rfl)) pgs_nil)))))
  (pss_one (ps_ret (pe_ifExp (pt_cmpR op_eq (pv 1) pe_str (nomark _)) (C8.pe_c c_read_number hr (by decide) rfl (pa_cons (pv 3) (pa_cons (pe_glob (v := .int 30) rfl g_MOST_DAYS ⟨_, rfl⟩) pa_nil))) pe_non)))))), ?_⟩
    refine ⟨_, rfl, ⟨_, rfl⟩, _, " ", rfl, rfl, by decide +kernel, Nat.le_of_lt (lt_line (Nat.le_trans (days_len h1 h2) (by decide))), fun p hp => ?_⟩
    rw [days_part]
    have yp := same_new (o := .tup [V.str "days", .str " ", .str (numS d)]) hp
    refine ⟨p, _, rfl, SqT.of upd_same, rfl, _, _, rfl, _, _, rfl, _, _, rfl, rfl, ?_⟩
    refine ⟨_, rfl, rfl, _, rfl, ?_⟩
    rw [decide_eq_true (show V.str "days" = V.str "days" from rfl)]
    exact ⟨_, rfl, d, 30, rfl, h1, h2, by decide, fun H' s' => q _ (yp.trans s')⟩
theorem c_read_days (T : Txt w K mg) : C8.Cal P w K mg base 2 "read_days" (sp_read_days K) [] := by
  obtain ⟨fd, F⟩ := T.f_read_days
  exact ⟨_, fd, _, _, ok_read_days T F, T.g_read_days, F.kp, F.bindsN (fun _ _ _ _ _ _ us hl => match us, hl with | [_], _ => rfl), .nil⟩
def sp_read_rule (K : PySem.W.Frag) : Sp := fun vs H Q _ => ∃ (m : Str) (r : RuleL), vs = [.str (lineS m r), .str m] ∧ m ∈ moms ∧ GoodRule r ∧ ∀ H' p, Same H H' → RuleAt K H' p r → Q (.ref p) H'
set_option maxHeartbeats 2000000 in
theorem ok_read_rule (T : Txt w K mg) {fd : FuncData} (F : FunD K d_read_rule.name d_read_rule.qual d_read_rule.params d_read_rule.body d_read_rule.scope (d_read_rule.dvs K) (d_read_rule.kws K) (He.fAd K d_read_rule.at_) fd) : FnOk P w K mg base C8.CX0 3 (He.fAd K d_read_rule.at_) fd ["line", "moment"] (sp_read_rule K) := by
  have c_is_rule := c_is_rule (P := P) (w := w) (base := base) T
  refine F.ok sc_read_rule (fun vs H Q E h => ?_) (fun cdv A outer s H vs Q E hr h => ?_)
  · obtain ⟨m, r, rfl, _⟩ := h
    rfl
  · have hu := L2.hu_of hr
    obtain ⟨m, r, rfl, hm, gr, q⟩ := h
    refine ⟨_, (PSs.nox ((pss_cons (ps_set (i := 2) sc_read_rule.nd rfl (by first | exact Or.inl rfl | exact Or.inr rfl) (pe_split (pv 0) pe_str))
  (pss_cons (ps_set (i := 3) sc_read_rule.nd rfl (by first | exact Or.inl rfl | exact Or.inr rfl) (pe_callTy (My.tuple_ofK (K := K) rfl) (by rfl) T.tuple (by decide +kernel) (pa_cons (pe_slice (My.sl_listK (K := K) rfl) (pv 2) (po_some pe_int) po_none) pa_nil)))
  (pss_one (ps_ret (pe_ifExp (PW.pt (pw_and (pt_cmpR op_eq (pe_ix (My.ix_listK (K := K) rfl) (pv 2) pe_int (fun _ _ => rfl)) (pe_op op_add_str (pv 1) pe_str) (nomark _)) (pw_and1 (pt_val (C8.pe_c c_is_rule hr (by decide) rfl (pa_cons (pv 3) pa_nil)))))) (pv 3) pe_non))))))), ?_⟩
    have ml : m.length ≤ 6 := by
      have h : ∀ x ∈ moms, x.length ≤ 6 := by decide +kernel
      exact h m hm
    refine ⟨_, rfl, ⟨_, rfl⟩, _, " ", rfl, rfl, by decide +kernel, ?_, fun L hL => ?_⟩
    · have := lineS_len ml gr
      exact Nat.le_of_lt (lt_line (by omega))
    rw [words_split hm gr]
    have yL := same_new (o := .lst (((m ++ ":") :: r).map V.str)) hL
    refine ⟨_, rfl, 1, rfl, L, _, rfl, SqL.of upd_same, fun q1 hq1 => ?_⟩
    have ec : cutV (((m ++ ":") :: r).map V.str) (some (1 : Int)) none = r.map V.str := cut_from (c := 1)
    rw [ec]
    have y1 := same_new (o := .lst (r.map V.str)) hq1
    refine ⟨q1, _, rfl, .inl ⟨SqL.of upd_same, fun t ht => ?_⟩⟩
    have yt := same_new (o := .tup (r.map V.str)) ht
    have ss := (yL.trans y1).trans yt
    have hL3 := yt _ _ (y1 _ _ (show upd H L (.lst (((m ++ ":") :: r).map V.str)) L = some (.lst (((m ++ ":") :: r).map V.str)) from upd_same))
    have ht3 : RuleAt K (upd (upd (upd H L (.lst (((m ++ ":") :: r).map V.str))) q1 (.lst (r.map V.str))) t (.tup (r.map V.str))) t r := SqT.of upd_same
    refine ⟨_, rfl, L, _, 0, _, rfl, rfl, SqL.of hL3, atI_nat (j := 0) rfl, _, rfl, _, _, rfl, rfl, cat_ok 6 1 ml (by decide +kernel), rfl, _, rfl, ?_⟩
    rw [decide_eq_true (show V.str (m ++ ":") = V.str (m ++ ":") from rfl)]
    refine ⟨_, rfl, t, r, rfl, ht3, gr, fun H5 s5 => ?_⟩
    exact ⟨true, rfl, _, rfl, q _ t (ss.trans s5) (same_tup s5 ht3)⟩
theorem c_read_rule (T : Txt w K mg) : C8.Cal P w K mg base 3 "read_rule" (sp_read_rule K) [] := by
  obtain ⟨fd, F⟩ := T.f_read_rule
  exact ⟨_, fd, _, _, ok_read_rule T F, T.g_read_rule, F.kp, F.bindsN (fun _ _ _ _ _ _ us hl => match us, hl with | [_, _], _ => rfl), .nil⟩
def sp_read_book (K : PySem.W.Frag) : Sp := fun vs H Q _ => ∃ (d : Int) (rs : List RuleL), vs = [.str (bookS d rs)] ∧ GoodB rs ∧ 1 ≤ d ∧ d ≤ 30 ∧ ∀ H' b, H b = none → Same H H' → BookAt K H' b d rs → Q (.ref b) H'
set_option maxHeartbeats 2000000 in
theorem ok_read_book (T : Txt w K mg) {fd : FuncData} (F : FunD K d_read_book.name d_read_book.qual d_read_book.params d_read_book.body d_read_book.scope (d_read_book.dvs K) (d_read_book.kws K) (He.fAd K d_read_book.at_) fd) : FnOk P w K mg base C8.CX0 5 (He.fAd K d_read_book.at_) fd ["text"] (sp_read_book K) := by
  have c_Book_init := c_Book_init (P := P) (w := w) (base := base) T
  have c_read_rule := c_read_rule (P := P) (w := w) (base := base) T
  have c_read_days := c_read_days (P := P) (w := w) (base := base) T
  have c_lines_of := c_lines_of (P := P) (w := w) (base := base) T
  refine F.ok sc_read_book (fun vs H Q E h => ?_) (fun cdv A outer s H vs Q E hr h => ?_)
  · obtain ⟨d, rs, rfl, _⟩ := h
    rfl
  · have hu := L2.hu_of hr
    obtain ⟨d, rs, rfl, hg, h1, h2, q⟩ := h
    refine ⟨_, (PSs.nox ((pss_cons (ps_set (i := 1) sc_read_book.nd rfl (by first | exact Or.inl rfl | exact Or.inr rfl) (C8.pe_c c_lines_of hr (by decide) rfl (pa_cons (pv 0) pa_nil)))
  (pss_cons (ps_set (i := 2) sc_read_book.nd rfl (by first | exact Or.inl rfl | exact Or.inr rfl) (C8.pe_c c_read_days hr (by decide) rfl (pa_cons (pe_ix (My.ix_listK (K := K) rfl) (pv 1) pe_int (fun _ _ => rfl)) pa_nil)))
  (pss_cons (ps_if (pt_cmpR op_isN (pv 2) pe_non (nomark _))
  (pss_one ps_never)
  pss_nil)
  (pss_cons (ps_set (i := 3) sc_read_book.nd rfl (by first | exact Or.inl rfl | exact Or.inr rfl) (pe_lst pa_nil))
  (pss_cons (ps_for PassesOwn.never rfl (My.pi_enumT (K := K) rfl (by rfl) T.enumerate (pa_cons (pe_glob (v := .ref (He.ga K "MOMENTS")) rfl T.g_MOMENTS rfl) pa_nil) (pk_cons pe_int pk_nil)) (My.pg_tupK (K := K) (n := 2) rfl rfl (pgs_cons (pg_name (i := 4) sc_read_book.nd rfl (by first | exact Or.inl rfl | exact Or.inr rfl)) (pgs_cons (pg_name (i := 5) sc_read_book.nd rfl (by first | exact Or.inl rfl | exact Or.inr rfl)) pgs_nil)))
  (pss_cons (ps_set (i := 6) sc_read_book.nd rfl (by first | exact Or.inl rfl | exact Or.inr rfl) (pe_ifExp (pt_cmpR op_lt (pv 4) (pe_callB (My.len_seqK (K := K) rfl) (by rfl) T.len (by decide +kernel) (pa_cons (pv 1) pa_nil)) (nomark _)) (C8.pe_c c_read_rule hr (by decide) rfl (pa_cons (pe_ix (My.ix_listK (K := K) rfl) (pv 1) (pv 4) (fun _ _ => rfl)) (pa_cons (pv 5) pa_nil))) pe_non))
  (pss_cons (ps_if (pt_cmpR op_isN (pv 6) pe_non (nomark _))
  (pss_one ps_never)
  pss_nil)
  (pss_one (ps_expr (My.pe_bmK (K := K) rfl PySem.F.plainAttrs_list PySem.F.slot_list_append PySem.F.type_list_append mt_append (pv 3) (pa_cons (pv 6) pa_nil)))))))
  (pss_cons (ps_if (pt_cmpR op_gt (pe_callB (My.len_seqK (K := K) rfl) (by rfl) T.len (by decide +kernel) (pa_cons (pv 1) pa_nil)) (pe_op op_add pe_int (pe_callB (My.len_seqK (K := K) rfl) (by rfl) T.len (by decide +kernel) (pa_cons (pe_glob (v := .ref (He.ga K "MOMENTS")) rfl T.g_MOMENTS rfl) pa_nil))) (nomark _))
  (pss_one ps_never)
  pss_nil)
  (pss_one (ps_ret (My.pe_mkS2 c_Book_init hr (by decide) rfl (pa_cons (pv 2) (My.pa_starK (K := K) rfl (pv 3) pa_nil))))))))))))), ?_⟩
    refine ⟨_, rfl, _, rfl, Nat.le_of_lt (lt_line (Nat.le_trans (Nat.add_le_add_right (book_len hg h1 h2) 2) (by decide))), fun L hL => ?_⟩
    rw [book_split hg h1]
    have yL := same_new (o := .lst ((linesS d rs).map V.str)) hL
    have hL1 : upd H L (.lst ((linesS d rs).map V.str)) L = some (.lst ((linesS d rs).map V.str)) := upd_same
    generalize upd H L (.lst ((linesS d rs).map V.str)) = H1 at yL hL1
    refine ⟨_, rfl, L, _, 0, _, rfl, rfl, SqL.of hL1, atI_nat (j := 0) rfl, d, rfl, h1, h2, fun H2 s2 => ?_⟩
    refine ⟨_, rfl, rfl, _, rfl, ?_⟩
    rw [decide_eq_false (show ¬ V.int d = V.non from fun z => by cases z)]
    refine ⟨Nat.zero_le _, fun R hR => ?_⟩
    have yR := same_new (o := .lst []) hR
    have s12 := s2
    have hHR : H R = none := yL.free (s2.free hR)
    have nLR : L ≠ R := ne_of_none (s2 _ _ hL1) hR
    refine ⟨He.ga K "MOMENTS", moms.map V.str, 1, rfl, rfl, by decide, by decide, T.tup_MOMENTS _, ?_⟩
    refine for_it (walk_enumT (xs := moms.map V.str)) (fun i σ H' => ∃ o4 o5 o6, σ = [some (.str (bookS d rs)), some (.ref L), some (.int d), some (.ref R), o4, o5, o6] ∧ Same H H' ∧ H' L = some (.lst ((linesS d rs).map V.str)) ∧ ∃ as : List Addr, H' R = some (.lst (as.map V.ref)) ∧ Paired (RuleAt K H') as (rs.take i))
      ⟨_, _, _, rfl, (yL.trans s2).trans yR, yR _ _ (s2 _ _ hL1), [], upd_same, .nil⟩ (fun i σ H' _ _ => T.tup_MOMENTS _) ?_ ?_
    · rintro i x σ H3 H4 hi ⟨o4, o5, o6, rfl, s3, hL3, as, hR3, has⟩ ⟨T2, x1, y, rfl, hT, rfl, e1, hy⟩
      cases e1
      obtain ⟨m, hm, rfl⟩ := map_get hy
      have hi8 : i < 8 := hi
      have er := hg.get hi8
      have gr := hg.good _ (List.mem_of_getElem? er)
      have em : moms.getD i Str.empty = m := by rw [List.getD_eq_getElem?_getD, hm]; rfl
      have yT := same_new (o := .tup [.int (1 + (i : Int)), .str m]) hT
      refine ⟨T2, _, rfl, SqT.of upd_same, rfl, _, _, rfl, _, _, rfl, rfl, ?_⟩
      have hline : ((linesS d rs).map V.str)[i + 1]? = some (.str (lineS m (at_ rs i))) := by
        show ((linesN 8 rs).map V.str)[i]? = _
        unfold linesN
        rw [List.getElem?_map, List.getElem?_map, List.getElem?_range hi8, ← em]
        rfl
      have e9 : ((linesS d rs).map V.str).length = 9 := by
        rw [List.length_map]
        show (linesN 8 rs).length + 1 = 9
        rw [linesN_len]
      refine ⟨_, rfl, _, rfl, L, _, rfl, .inl (SqL.of (yT _ _ hL3)), _, _, rfl, rfl, _, rfl, ?_⟩
      rw [e9, decide_eq_true (show (1 : Int) + (i : Int) < ((9 : Nat) : Int) by omega)]
      have e1 : (1 : Int) + (i : Int) = ((i + 1 : Nat) : Int) := by omega
      refine ⟨_, rfl, _, rfl, L, _, _, _, rfl, rfl, SqL.of (yT _ _ hL3), by rw [e1]; exact atI_nat hline, _, rfl, m, at_ rs i, rfl, List.mem_of_getElem? hm, gr, fun H5 p s5 hp => ?_⟩
      refine ⟨_, rfl, rfl, _, rfl, ?_⟩
      rw [decide_eq_false (show ¬ V.ref p = V.non from fun z => by cases z)]
      have hR5 := s5 _ _ (yT _ _ hR3)
      refine ⟨_, rfl, .inl ⟨rfl, _, SqL.of hR5⟩, _, rfl, R, _, _, rfl, rfl, hR5, ?_, ?_⟩
      · rw [List.length_map, has.length, List.length_take]
        exact lt_line (by omega)
      have s35 := yT.trans s5
      refine ⟨_, _, _, rfl, same_upd (s3.trans s35) hHR, (upd_ne nLR).trans (s35 _ _ hL3), as ++ [p], by rw [upd_same, List.map_append]; rfl, ?_⟩
      rw [take_more er]
      exact paired_app (paired_map (fun _ _ _ x => tupU hR5 (same_tup s35 x)) has) (.cons (tupU hR5 hp) .nil)
    rintro σ H3 ⟨o4, o5, o6, rfl, s3, hL3, as, hR3, has⟩
    have has8 : Paired (RuleAt K H3) as rs := by
      have e : rs.take (moms.map V.str).length = rs := List.take_of_length_le (by rw [hg.len]; exact Nat.le_refl _)
      rw [e] at has
      exact has
    have e9 : ((linesS d rs).map V.str).length = 9 := by
      rw [List.length_map]
      show (linesN 8 rs).length + 1 = 9
      rw [linesN_len]
    refine ⟨_, rfl, L, _, rfl, .inl (SqL.of hL3), He.ga K "MOMENTS", _, rfl, .inr (T.tup_MOMENTS _), _, _, rfl, rfl, _, _, rfl, rfl, _, rfl, ?_⟩
    rw [e9]
    refine ⟨_, rfl, _, rfl, R, _, rfl, .inr (SqL.of hR3), ?_⟩
    intro x dx nx ndx nex
    have z1 : Same H3 (upd (upd H3 dx (.own x)) x (.ins (He.ga K "Book") dx [])) := (same_new ndx).trans (same_upd (Same.refl _) (by rw [upd_ne nex.symm]; exact nx))
    refine ⟨x, dx, d, as, rs, by rw [List.append_nil, List.append_nil], upd_same, h1, h2, paired_map (fun a r _ hr => same_tup z1 hr) has8, hg.len, hg.good, fun H' t2 bt hx ht2 => ⟨rfl, ?_⟩⟩
    have z3 : Same H3 H' := fun c o e => bt c o (by simpa using ne_of_none e nx) (z1 _ _ e)
    exact q _ x (s3.free nx) (s3.trans z3) ⟨dx, t2, _, hx, SqT.of ht2, paired_map (fun a r _ hr => same_tup z3 hr) has8, hg.len⟩
theorem c_read_book (T : Txt w K mg) : C8.Cal P w K mg base 5 "read_book" (sp_read_book K) [] := by
  obtain ⟨fd, F⟩ := T.f_read_book
  exact ⟨_, fd, _, _, ok_read_book T F, T.g_read_book, F.kp, F.bindsN (fun _ _ _ _ _ _ us hl => match us, hl with | [_], _ => rfl), .nil⟩
end
end K15

namespace K15
open PySem PySem.Spec PyProof.Rows L2 My StX
section
variable {P : Program} {w : World} {K : PySem.W.Frag} {mg : Str → Option Value} {base : Heap}
def sp_law_line (K : PySem.W.Frag) : Sp := fun vs H Q _ => ∃ (m : Str) (a : Addr) (r : RuleL), vs = [.str m, .ref a] ∧ m.length ≤ 6 ∧ RuleAt K H a r ∧ GoodRule r ∧ ∀ H', Same H H' → Q (.str (lineS m r)) H'
set_option maxHeartbeats 2000000 in
theorem ok_law_line (T : Txt w K mg) {fd : FuncData} (F : FunD K d_law_line.name d_law_line.qual d_law_line.params d_law_line.body d_law_line.scope (d_law_line.dvs K) (d_law_line.kws K) (He.fAd K d_law_line.at_) fd) : FnOk P w K mg base C8.CX0 1 (He.fAd K d_law_line.at_) fd ["word", "row"] (sp_law_line K) := by
  refine F.ok sc_law_line (fun vs H Q E h => ?_) (fun cdv A outer s H vs Q E hr h => ?_)
  · obtain ⟨m, a, r, rfl, _⟩ := h
    rfl
  · have hu := L2.hu_of hr
    obtain ⟨m, a, r, rfl, hm, ha, hr, q⟩ := h
    refine ⟨_, (PSs.nox ((pss_one (ps_ret (My.pe_joinK (K := K) rfl pe_str (pe_op op_cat (pe_lst (pa_cons (pe_op op_add_str (pv 0) pe_str) pa_nil)) (pe_callTy (My.list_ofK (K := K) rfl) (by rfl) T.list (by decide +kernel) (pa_cons (pv 1) pa_nil)))))))), ?_⟩
    refine ⟨⟨_, rfl⟩, _, rfl, _, _, rfl, rfl, cat_ok 6 1 hm (by decide +kernel), by show 1 ≤ sizeLine; decide, fun q1 hq1 => ?_⟩
    have y1 := same_new (o := .lst [.str (m ++ ":")]) hq1
    refine ⟨_, rfl, a, _, rfl, .inr (same_tup y1 ha), fun q2 hq2 => ?_⟩
    have y2 := same_new (o := .lst (r.map V.str)) hq2
    refine ⟨q1, q2, _, _, rfl, rfl, y2 _ _ upd_same, upd_same, ?_, fun q3 hq3 => ?_⟩
    · rw [List.length_map]
      have := hr.1
      exact Nat.le_of_lt (lt_line (by show 1 + r.length ≤ _; omega))
    exact ⟨" ", q3, (m ++ ":") :: r, rfl, rfl, .inl (SqL.of upd_same), Nat.le_trans (line_pre hm hr) (by decide), q _ ((y1.trans y2).trans (same_new hq3))⟩
theorem c_law_line (T : Txt w K mg) : C8.Cal P w K mg base 1 "_law_line" (sp_law_line K) [] := by
  obtain ⟨fd, F⟩ := T.f_law_line
  exact ⟨_, fd, _, _, ok_law_line T F, T.g_law_line, F.kp, F.bindsN (fun _ _ _ _ _ _ us hl => match us, hl with | [_, _], _ => rfl), .nil⟩
def sp_law_lines (K : PySem.W.Frag) : Sp := fun vs H Q _ => ∃ (p : Addr) (d : Int) (rs : List RuleL), vs = [.ref p] ∧ PlanAt K H p d rs ∧ GoodB rs ∧ 1 ≤ d ∧ d ≤ 30 ∧ ∀ H' L, Same H H' → H' L = some (.lst ((linesS d rs).map V.str)) → Q (.ref L) H'
set_option maxHeartbeats 2000000 in
theorem ok_law_lines (T : Txt w K mg) {fd : FuncData} (F : FunD K d_law_lines.name d_law_lines.qual d_law_lines.params d_law_lines.body d_law_lines.scope (d_law_lines.dvs K) (d_law_lines.kws K) (He.fAd K d_law_lines.at_) fd) : FnOk P w K mg base C8.CX0 2 (He.fAd K d_law_lines.at_) fd ["plan"] (sp_law_lines K) := by
  have c_law_line := c_law_line (P := P) (w := w) (base := base) T
  have c_law_moments := c_law_moments (P := P) (w := w) (base := base) T
  refine F.ok sc_law_lines (fun vs H Q E h => ?_) (fun cdv A outer s H vs Q E hr h => ?_)
  · obtain ⟨p, d, rs, rfl, _⟩ := h
    rfl
  · have hu := L2.hu_of hr
    obtain ⟨p, d, rs, rfl, ⟨t, as, hp, ht, h3⟩, hg, h1, h2, q⟩ := h
    refine ⟨_, (PSs.nox ((pss_cons (ps_set (i := 1) sc_law_lines.nd rfl (by first | exact Or.inl rfl | exact Or.inr rfl) (My.pe_c0 c_law_moments hr (by decide) rfl))
  (pss_one (ps_ret (pe_op op_cat (pe_lst (pa_cons (pe_op op_add_str pe_str (pe_callTy call_str_int (by rfl) T.str (by decide +kernel) (pa_cons (pe_ix (My.ix_tupK (K := K) rfl) (pv 0) pe_int (fun _ _ => rfl)) pa_nil))) pa_nil)) (pe_lc (own := [("k", 2)]) (g := (gName 2)) (tt := tYes) (by rfl) sc_law_lines.nd (pi_range1 (by rfl) T.range (pa_cons pe_int pa_nil)) (blkOk_by (N := N_law_lines) (sc := defScope s_law_lines) (by decide +kernel)) (fun _ _ _ _ _ => (pg_name (i := 2) sc_law_lines.nd rfl (by first | exact Or.inl rfl | exact Or.inr rfl))) (fun _ _ _ _ _ => pts_nil) (fun _ _ _ _ _ => (C8.pe_c c_law_line hr (by decide) rfl (pa_cons (pe_ix (My.ix_listK (K := K) rfl) (pv 1) (pv 2) (fun _ _ => rfl)) (pa_cons (pe_ix (My.ix_tupK (K := K) rfl) (pe_ix (My.ix_tupK (K := K) rfl) (pv 0) pe_int (fun _ _ => rfl)) (pv 2) (fun _ _ => rfl)) pa_nil))))))))))), ?_⟩
    have mem : ∀ {i : Nat} {x : Str}, moms[i]? = some x → moms.getD i Str.empty = x := fun e => by rw [List.getD_eq_getElem?_getD, e]; rfl
    have hd := num_len (p := d) ⟨h1, by omega⟩
    refine ⟨rfl, fun wl hwl => ?_⟩
    have yw := same_new (o := .lst (moms.map V.str)) hwl
    refine ⟨_, rfl, p, _, 0, _, rfl, rfl, same_tup yw hp, rfl, d, rfl, num_log ⟨h1, by omega⟩, _, _, rfl, rfl, cat_ok 5 11 (by decide +kernel) hd, by show 1 ≤ sizeLine; decide, fun L hL => ?_⟩
    have hw1 : upd H wl (.lst (moms.map V.str)) wl = some (.lst (moms.map V.str)) := upd_same
    have yL := same_new (o := .lst [.str ("days " ++ Str.ofString (toString d))]) hL
    have hL1 : upd (upd H wl (.lst (moms.map V.str))) L (.lst [.str ("days " ++ Str.ofString (toString d))]) L = some (.lst [.str ("days " ++ numS d)]) := upd_same
    have hw2 := yL _ _ hw1
    have y0 := yw.trans yL
    generalize upd (upd H wl (.lst (moms.map V.str))) L (.lst [.str ("days " ++ Str.ofString (toString d))]) = H1 at hL1 hw2 y0
    refine ⟨8, rfl, by decide, by decide, fun D hD => ?_⟩
    refine lc_range (lo := 0) (n := (8 : Int).toNat) (fun i H' => Same H1 H' ∧ H' D = some (.lst ((linesN i rs).map V.str))) ⟨same_new hD, upd_same⟩ ?_ ?_
    · rintro i H2 hi ⟨s2, hD2⟩
      have hi8 : i < 8 := hi
      have e0 : (0 : Int) + (i : Int) = (i : Int) := by omega
      have s02 := y0.trans s2
      have hr := hg.get hi8
      obtain ⟨ai, hai, hra⟩ := paired_get h3 hr
      obtain ⟨m, hm⟩ : ∃ m, moms[i]? = some m := ⟨_, List.getElem?_eq_getElem (show i < moms.length from hi8)⟩
      have ml : m.length ≤ 6 := by rw [← mem hm]; exact mom_len i
      refine ⟨rfl, ?_⟩
      refine ⟨_, rfl, _, rfl, wl, _, _, _, rfl, rfl, SqL.of (s2 _ _ hw2), by rw [e0]; exact atI_nat (by rw [List.getElem?_map, hm]; rfl), _, rfl, p, _, 1, _, rfl, rfl, same_tup s02 hp, rfl, _, rfl, t, _, _, _, rfl, rfl, same_tup s02 ht, by rw [e0]; exact atI_nat (by rw [List.getElem?_map, hai]; rfl), ?_⟩
      refine ⟨m, ai, at_ rs i, rfl, ml, same_tup s02 hra, hg.good _ (List.mem_of_getElem? hr), fun H3 s3 => ?_⟩
      refine ⟨_, s3 _ _ hD2, by rw [List.length_map, linesN_len]; exact lt_line (by omega), same_upd (s2.trans s3) hD, ?_⟩
      rw [upd_same, linesN_more, mem hm, List.map_append]
      rfl
    · rintro H2 ⟨s2, hD2⟩
      have hD8 : H2 D = some (.lst ((linesN 8 rs).map V.str)) := hD2
      refine ⟨L, D, _, _, rfl, rfl, s2 _ _ hL1, hD8, ?_, fun q3 hq3 => ?_⟩
      · rw [List.length_map, linesN_len]
        exact Nat.le_of_lt (lt_line (by show 1 + 8 ≤ 1000000; decide))
      exact q _ q3 ((y0.trans s2).trans (same_new hq3)) upd_same
theorem c_law_lines (T : Txt w K mg) : C8.Cal P w K mg base 2 "_law_lines" (sp_law_lines K) [] := by
  obtain ⟨fd, F⟩ := T.f_law_lines
  exact ⟨_, fd, _, _, ok_law_lines T F, T.g_law_lines, F.kp, F.bindsN (fun _ _ _ _ _ _ us hl => match us, hl with | [_], _ => rfl), .nil⟩
end
end K15

namespace K15
open PySem PySem.Spec PyProof.Rows L2 My StX
section
variable {P : Program} {w : World} {K : PySem.W.Frag} {mg : Str → Option Value} {base : Heap}
/-- two books that hold the same -/
def EqBook (K : PySem.W.Frag) (a b : Addr) (H : Hp) : Prop := ∃ d rs, BookAt K H a d rs ∧ BookAt K H b d rs ∧ GoodB rs
def sp_Book_eq (K : PySem.W.Frag) : Sp := spEq (EqBook K)
set_option maxHeartbeats 2000000 in
theorem ok_Book_eq (T : Txt w K mg) {fd : FuncData} (F : FunD K d_Book_eq.name d_Book_eq.qual d_Book_eq.params d_Book_eq.body d_Book_eq.scope (d_Book_eq.dvs K) (d_Book_eq.kws K) (He.fAd K d_Book_eq.at_) fd) : FnOk P w K mg base C8.CX0 1 (He.fAd K d_Book_eq.at_) fd ["self", "other"] (sp_Book_eq K) := by
  refine F.ok sc_Book_eq (fun vs H Q E h => ?_) (fun cdv A outer s H vs Q E hr h => ?_)
  · obtain ⟨a, b, rfl, _⟩ := h
    rfl
  · have hu := L2.hu_of hr
    obtain ⟨a, b, rfl, ⟨d, rs, ha, hb, hg⟩, q⟩ := h
    refine ⟨_, (PSs.nox ((pss_one (ps_ret (pe_and (pe_callB (My.isiK (K := K) rfl) (by rfl) T.isinstance (by decide +kernel) (pa_cons (pv 1) (pa_cons (pe_glob (v := .ref (He.ga K "Book")) rfl T.g_Book rfl) pa_nil))) (pe_and (pe_cmpR op_eq (My.pe_fldK (K := K) rfl (pv 0) rfl) (My.pe_fldK (K := K) rfl (pv 1) rfl) (nomark _)) (pe_one (pe_cmpR (My.eqDK (K := K) rfl hr.units) (My.pe_fldK (K := K) rfl (pv 0) rfl) (My.pe_fldK (K := K) rfl (pv 1) rfl) (nomark _))))))))), ?_⟩
    obtain ⟨dx, t, as, hx, ht, h3, h8⟩ := id ha
    obtain ⟨dy, t', as', hy, ht', h3', h8'⟩ := id hb
    refine ⟨_, rfl, _, _, _, .ref (He.ga K (Str.ofString "Book")), true, rfl, .own _, insB_ty T.insB_Book T.cl_Book hy, kit_own, ⟨true, rfl, ?_⟩⟩
    refine ⟨_, rfl, a, _, dx, _, _, rfl, hx, T.cl_Book, T.no_Book__days, rfl, _, rfl, b, _, dy, _, _, rfl, hy, T.cl_Book, T.no_Book__days, rfl, rfl, _, rfl, ?_⟩
    rw [decide_eq_true (show V.int d = V.int d from rfl), if_pos rfl]
    refine ⟨_, rfl, a, _, dx, _, _, rfl, hx, T.cl_Book, T.no_Book__rules, rfl, _, rfl, b, _, dy, _, _, rfl, hy, T.cl_Book, T.no_Book__rules, rfl, rulesD rs, rulesD rs, dp_rules ht h3, dp_rules ht' h3', (sm_rules hg).shaped (by decide), (sm_rules hg).shaped (by decide), ?_⟩
    rw [(sm_rules hg).refl]
    exact q _ (fun _ _ z => z)
theorem c_Book_eq (T : Txt w K mg) : C8.Met P w K mg base 1 (He.ga K "Book") "__eq__" (sp_Book_eq K) [] := by
  obtain ⟨fd, F⟩ := T.f_Book_eq
  exact ⟨_, fd, _, _, T.cl_Book, T.m_Book_eq, ok_Book_eq T F, F.bindsN (fun _ _ _ _ _ _ us hl => match us, hl with | [_, _], _ => rfl), .nil⟩
end
end K15

namespace K15
open PySem PySem.Spec PyProof.Rows L2 My StX
/-! ### the law's own box: a list [is open, inside, taken for, valid, last] -/
def LBx (as : List Addr) (H : Hp) (bx : Addr) (S : BoxS) : Prop := ∃ (l1 l3 : Addr) (ys : List Int), H bx = some (.lst [.bl S.ajar, .ref l1, .str S.tf, .ref l3, .int (S.last.getD 0), .int (S.age.getD 0)]) ∧ H l1 = some (.lst (S.inside.map V.int)) ∧ H l3 = some (.lst (ys.map V.int)) ∧ ys.Perm S.valid ∧ ys.Pairwise (· ≤ ·) ∧
  l1 ≠ bx ∧ l3 ≠ bx ∧ S.valid.Nodup ∧ (∀ p, S.last = some p → 1 ≤ p) ∧ l1 ∉ as ∧ l3 ∉ as
theorem LBx.same {as : List Addr} {H H' : Hp} {bx : Addr} {S : BoxS} (s : Same H H') (h : LBx as H bx S) : LBx as H' bx S := by
  obtain ⟨l1, l3, ys, h1, h2, h3, r⟩ := h
  exact ⟨l1, l3, ys, s _ _ h1, s _ _ h2, s _ _ h3, r⟩
theorem LBx.less {as : List Addr} {H : Hp} {bx L : Addr} {S : BoxS} (h : LBx (L :: as) H bx S) : LBx as H bx S := by
  obtain ⟨l1, l3, ys, h1, h2, h3, h4, h5, h6, h7, h8, h9, h10, h11⟩ := h
  exact ⟨l1, l3, ys, h1, h2, h3, h4, h5, h6, h7, h8, h9, fun z => h10 (List.mem_cons_of_mem _ z), fun z => h11 (List.mem_cons_of_mem _ z)⟩
theorem LBx.new {as : List Addr} {H : Hp} {bx L : Addr} {S : BoxS} (h : LBx as H bx S) (hL : H L = none) : LBx (L :: as) H bx S := by
  obtain ⟨l1, l3, ys, h1, h2, h3, h4, h5, h6, h7, h8, h9, h10, h11⟩ := h
  refine ⟨l1, l3, ys, h1, h2, h3, h4, h5, h6, h7, h8, h9, fun z => ?_, fun z => ?_⟩
  · rcases List.mem_cons.mp z with z | z
    · exact ne_of_none h2 hL z
    · exact h10 z
  · rcases List.mem_cons.mp z with z | z
    · exact ne_of_none h3 hL z
    · exact h11 z
theorem act_T {S : BoxS} {U : ToldS} {a : Str} : (act (S, U) a).1 = (act (S, T0) a).1 ∧ (act (S, U) a).2 = { U with letters := U.letters ++ (act (S, T0) a).2.letters } := by
  have e0 : ∀ V : ToldS, V = { V with letters := V.letters ++ ([] : List Int) } := fun V => by
    cases V
    simp
  unfold act
  split
  · unfold sendCode
    show (if S.tf = "full" then _ else _ : BoxS × ToldS).1 = (if S.tf = "full" then _ else _ : BoxS × ToldS).1 ∧ _
    split
    · cases hl : S.last with
      | none => simp only [hl]; exact ⟨trivial, e0 U⟩
      | some p => simp only [hl]; exact ⟨trivial, rfl⟩
    · exact ⟨rfl, e0 U⟩
  · split
    · exact ⟨rfl, e0 U⟩
    · split
      · exact ⟨rfl, e0 U⟩
      · split
        · exact ⟨rfl, e0 U⟩
        · exact ⟨rfl, e0 U⟩
theorem fold_T : ∀ (r : RuleL) (S : BoxS) (U : ToldS), (r.foldl act (S, U)).1 = (r.foldl act (S, T0)).1 ∧ (r.foldl act (S, U)).2 = { U with letters := U.letters ++ (r.foldl act (S, T0)).2.letters }
  | [], S, U => ⟨rfl, by cases U; simp [T0]⟩
  | a :: r, S, U => by
    obtain ⟨h1, h2⟩ := act_T (S := S) (U := U) (a := a)
    rcases hA : act (S, U) a with ⟨S', U'⟩
    rcases hB : act (S, T0) a with ⟨S0, U0⟩
    rw [hA, hB] at h1 h2
    simp only at h1 h2
    subst h1
    have i1 := fold_T r S' U'
    have i0 := fold_T r S' U0
    rw [List.foldl_cons, List.foldl_cons, hA, hB]
    refine ⟨i1.1.trans i0.1.symm, ?_⟩
    rw [i1.2, i0.2, h2]
    simp only [List.append_assoc]
theorem fold_valid : ∀ (r : RuleL) (x : BoxS × ToldS), x.1.valid.Nodup → (r.foldl act x).1.valid.Nodup
  | [], x, h => h
  | a :: r, x, h => by
    rw [List.foldl_cons]
    refine fold_valid r _ ?_
    unfold act
    split
    · unfold sendCode
      split
      · split
        · rename_i p _
          show (ins p x.1.valid).Nodup
          unfold ins
          split
          · exact h
          · rename_i hn
            exact List.nodup_append.mpr ⟨h, by simp, fun y hy z hz e => hn (by rw [List.mem_singleton.mp hz] at e; rw [← e]; exact hy)⟩
        · exact h
      · exact h
    · split
      · exact List.nodup_nil
      · split
        · exact h
        · split
          · exact h
          · exact h
theorem act_keeps (x : BoxS × ToldS) (a : Str) : (act x a).1.inside = x.1.inside ∧ (act x a).1.last = x.1.last := by
  unfold act
  split
  · unfold sendCode
    split
    · split
      · exact ⟨rfl, rfl⟩
      · exact ⟨rfl, rfl⟩
    · exact ⟨rfl, rfl⟩
  · split
    · exact ⟨rfl, rfl⟩
    · split
      · exact ⟨rfl, rfl⟩
      · split
        · exact ⟨rfl, rfl⟩
        · exact ⟨rfl, rfl⟩
theorem ins_perm {p : Int} {ys vs : List Int} (h : ys.Perm vs) (hn : vs.Nodup) : ((ys.filter fun q => decide (q ≠ p)) ++ [p]).Perm (ins p vs) := by
  have h1 : (ys.filter fun q => decide (q ≠ p)).Perm (vs.filter fun q => decide (q ≠ p)) := h.filter _
  refine (h1.append_right [p]).trans ?_
  unfold ins
  split
  · rename_i hp
    refine List.perm_append_comm.trans ?_
    have : (vs.filter fun q => decide (q ≠ p)) = vs.erase p := by
      rw [hn.erase_eq_filter]
      congr 1
      funext q
      by_cases e : q = p
      · simp [e]
      · simp [e]
    rw [this]
    exact (List.perm_cons_erase hp).symm
  · rename_i hp
    have e2 : vs.filter (fun q => decide (q ≠ p)) = vs := List.filter_eq_self.mpr fun q hq => decide_eq_true (fun e : q = p => hp (e ▸ hq))
    rw [e2]
section
variable {P : Program} {w : World} {K : PySem.W.Frag} {mg : Str → Option Value} {base : Heap}
theorem tupB {K : PySem.W.Frag} {H H' : Hp} {bx L t : Addr} {u v xs : List V} (b : But [bx, L] H H') (h1 : H bx = some (.lst u)) (h2 : H L = some (.lst v)) (h : SqT K H t xs) : SqT K H' t xs := by
  have go : ∀ o, H t = some o → (∀ l, o ≠ .lst l) → H' t = some o := fun o e no => b t o (by
    simp only [List.mem_cons, List.not_mem_nil, or_false, not_or]
    exact ⟨ne_of e h1 (fun z => no _ z), ne_of e h2 (fun z => no _ z)⟩) e
  rcases h with (h | ⟨o, h⟩) | h
  · exact .inl (.inl (go _ h (fun _ z => by cases z)))
  · exact .inl (.inr ⟨o, go _ h (fun _ z => by cases z)⟩)
  · exact .inr h
theorem eqv_nil (l : List Int) : PyData.eqv (.list (l.map PyData.int)) (.list []) = l.isEmpty := by
  cases l with
  | nil => rfl
  | cons x r => rfl
end
end K15

namespace K15
open PySem PySem.Spec PyProof.Rows L2 My StX
/-- the box as the walk keeps it: a list of six; none of its lists is one of these -/
def LB5 (as : List Addr) (H : Hp) (bx : Addr) (S : BoxS) : Prop := ∃ (l1 l3 : Addr) (ys : List Int), H bx = some (.lst [.bl S.ajar, .ref l1, .str S.tf, .ref l3, oV S.age, oV S.last]) ∧ H l1 = some (.lst (S.inside.map V.int)) ∧ H l3 = some (.lst (ys.map V.int)) ∧ ys.Perm S.valid ∧ ys.Pairwise (· ≤ ·) ∧
  l1 ≠ bx ∧ l3 ≠ bx ∧ S.valid.Nodup ∧ l1 ∉ as ∧ l3 ∉ as
theorem LB5.same {as : List Addr} {H H' : Hp} {bx : Addr} {S : BoxS} (s : Same H H') (h : LB5 as H bx S) : LB5 as H' bx S := by
  obtain ⟨l1, l3, ys, h1, h2, h3, r⟩ := h
  exact ⟨l1, l3, ys, s _ _ h1, s _ _ h2, s _ _ h3, r⟩
section
variable {P : Program} {w : World} {K : PySem.W.Frag} {mg : Str → Option Value} {base : Heap}
def sp_law_carry (K : PySem.W.Frag) : Sp := fun vs H Q _ => ∃ (bx pl L : Addr) (wd : Str) (i0 : Nat) (d : Int) (rs : List RuleL) (S : BoxS) (ls : List Int) (as : List Addr) (n : Nat), vs = [.ref bx, .ref pl, .str wd, .ref L] ∧ PlanAt K H pl d rs ∧ GoodB rs ∧ moms[i0]? = some wd ∧ LB5 as H bx S ∧ L ∈ as ∧ L ≠ bx ∧ H L = some (.lst (ls.map V.int)) ∧ (∀ x ∈ as, H x ≠ none) ∧ Bd n (S, T0) ∧ n ≤ 100000 ∧ ls.length ≤ 100000 ∧
  ∀ (H' : Hp), But [bx, L] H H' → LB5 as H' bx ((at_ rs i0).foldl act (S, T0)).1 → H' L = some (.lst ((ls ++ ((at_ rs i0).foldl act (S, T0)).2.letters).map V.int)) → Q .non H'
set_option maxHeartbeats 2000000 in
theorem ok_law_carry (T : Txt w K mg) {fd : FuncData} (F : FunD K d_law_carry.name d_law_carry.qual d_law_carry.params d_law_carry.body d_law_carry.scope (d_law_carry.dvs K) (d_law_carry.kws K) (He.fAd K d_law_carry.at_) fd) : FnOk P w K mg base C8.CX0 2 (He.fAd K d_law_carry.at_) fd ["state", "plan", "word", "letters"] (sp_law_carry K) := by
  have c_law_moments := c_law_moments (P := P) (w := w) (base := base) T
  refine F.ok sc_law_carry (fun vs H Q E h => ?_) (fun cdv A outer s H vs Q E hr h => ?_)
  · obtain ⟨bx, pl, L, wd, i0, d, rs, S, ls, as, n, rfl, _⟩ := h
    rfl
  · have hu := L2.hu_of hr
    obtain ⟨bx, pl, L, wd, i0, d, rs, S, ls, as, n, rfl, hp, hg, hm, hb, hLas, Lbx, hL, has, bd, hn, hls, q⟩ := h
    refine ⟨_, (PSs.nox ((pss_one (ps_for PassesOwn.never rfl (My.pi_tupK (K := K) rfl (pe_ix (My.ix_tupK (K := K) rfl) (pe_ix (My.ix_tupK (K := K) rfl) (pv 1) pe_int (fun _ _ => rfl)) (My.pe_bmK (K := K) rfl PySem.F.plainAttrs_list PySem.F.slot_list_index PySem.F.type_list_index (My.list_indexK (K := K) rfl) (My.pe_c0 c_law_moments hr (by decide) rfl) (pa_cons (pv 2) pa_nil)) (fun _ _ => rfl))) (pg_name (i := 4) sc_law_carry.nd rfl (by first | exact Or.inl rfl | exact Or.inr rfl))
  (pss_one (ps_if (pt_cmpR op_eq (pv 4) pe_str (nomark _))
  (pss_one (ps_asg (pe_ifExp (pt_cmpR (My.neDK (K := K) rfl hr.units) (pe_ix (My.ix_listK (K := K) rfl) (pv 0) pe_int (fun _ _ => rfl)) (pe_lst pa_nil) (nomark _)) pe_str pe_str) (pg_sub (pv 0) pe_int set_list)))
  (pss_one (ps_if (pt_cmpR op_eq (pv 4) pe_str (nomark _))
  (pss_one (ps_asg pe_bl (pg_sub (pv 0) pe_int set_list)))
  (pss_one (ps_if (pt_cmpR op_eq (pv 4) pe_str (nomark _))
  (pss_one (ps_asg (pe_lst pa_nil) (pg_sub (pv 0) pe_int set_list)))
  (pss_one (ps_if (pt_cmpR op_ne (pv 4) pe_str (nomark _))
  (pss_one (ps_asg (pv 4) (pg_sub (pv 0) pe_int set_list)))
  (pss_one (ps_if (PW.pt (pw_and (pt_cmpR op_eq (pe_ix (My.ix_listK (K := K) rfl) (pv 0) pe_int (fun _ _ => rfl)) pe_str (nomark _)) (pw_and1 (pt_cmpR op_notN (pe_ix (My.ix_listK (K := K) rfl) (pv 0) pe_int (fun _ _ => rfl)) pe_non (nomark _)))))
  (pss_cons (ps_expr (My.pe_bmK (K := K) rfl PySem.F.plainAttrs_list PySem.F.slot_list_append PySem.F.type_list_append mt_append (pv 3) (pa_cons (pe_ix (My.ix_listK (K := K) rfl) (pv 0) pe_int (fun _ _ => rfl)) pa_nil)))
  (pss_one (ps_asg (pe_callB (My.sortedIK (K := K) rfl) (by rfl) T.sorted (by decide +kernel) (pa_cons (pe_op op_cat (pe_lc (own := [("one", 5)]) (g := (gName 5)) (by rfl) sc_law_carry.nd (My.pi_listK (K := K) rfl (pe_ix (My.ix_listK (K := K) rfl) (pv 0) pe_int (fun _ _ => rfl))) (blkOk_by (N := N_law_carry) (sc := defScope s_law_carry) (by decide +kernel)) (fun _ _ _ _ _ => (pg_name (i := 5) sc_law_carry.nd rfl (by first | exact Or.inl rfl | exact Or.inr rfl))) (fun _ _ _ _ _ => (pts_one (pt_cmpR op_ne (pv 5) (pe_ix (My.ix_listK (K := K) rfl) (pv 0) pe_int (fun _ _ => rfl)) (nomark _)))) (fun _ _ _ _ _ => (pv 5))) (pe_lst (pa_cons (pe_ix (My.ix_listK (K := K) rfl) (pv 0) pe_int (fun _ _ => rfl)) pa_nil))) pa_nil)) (pg_sub (pv 0) pe_int set_list))))
  pss_nil)))))))))))))), ?_⟩
    obtain ⟨t, qs, hpt, htq, h3⟩ := id hp
    refine ⟨_, rfl, pl, _, 1, _, rfl, rfl, hpt, atI_nat (j := 1) rfl, rfl, fun wl hwl => ?_⟩
    have yw := same_new (o := .lst (moms.map V.str)) hwl
    refine ⟨.inl ⟨rfl, _, SqL.of upd_same⟩, _, rfl, wl, moms.map V.str, .str wd, i0, .str wd, rfl, rfl, SqL.of upd_same, rfl, by decide +kernel, by rw [List.getElem?_map, hm]; rfl, by show (wd == wd) = true; simp, ?_, ?_⟩
    · intro m z' hlt hz
      have D : ∀ i ∈ List.range 8, ∀ m ∈ List.range i, eqV (.str (moms.getD m Str.empty)) (.str (moms.getD i Str.empty)) = false := by decide +kernel
      have hi8 : i0 < 8 := (List.getElem?_eq_some_iff.mp hm).1
      have h := D i0 (List.mem_range.mpr hi8) m (List.mem_range.mpr hlt)
      rw [List.getElem?_map] at hz
      obtain ⟨y, hy, rfl⟩ := Option.map_eq_some_iff.mp hz
      have e1 : moms.getD m Str.empty = y := by rw [List.getD_eq_getElem?_getD, hy]; rfl
      have e2 : moms.getD i0 Str.empty = wd := by rw [List.getD_eq_getElem?_getD, hm]; rfl
      rw [e1, e2] at h
      exact h
    have hg8 : i0 < 8 := (List.getElem?_eq_some_iff.mp hm).1
    obtain ⟨t1, ht1, hr1⟩ := paired_get h3 (hg.get hg8)
    have hr6 := hg.six hg8
    generalize hr : at_ rs i0 = r at q hr1 hr6
    have b0 := hb.same yw
    have hL0 := yw _ _ hL
    have ht0 := same_tup yw hr1
    have hasW : ∀ x ∈ as, upd H wl (.lst (moms.map V.str)) x ≠ none := fun x hx e => has x hx (yw.free e)
    have s0 := yw
    refine ⟨t, _, _, _, rfl, rfl, same_tup yw htq, atI_nat (by rw [List.getElem?_map, ht1]; rfl), t1, rfl, ⟨_, ht0⟩, ?_⟩
    generalize upd H wl (.lst (moms.map V.str)) = H0 at b0 hL0 ht0 hasW s0
    refine for_tup (K := K) (a := t1) (xs := r.map V.str) (fun i σ H' => ∃ o4 o5 : Option V, σ = [some (.ref bx), some (.ref pl), some (.str wd), some (.ref L), o4, o5] ∧ But [bx, L] H0 H' ∧ LB5 as H' bx ((r.take i).foldl act (S, T0)).1 ∧ H' L = some (.lst ((ls ++ ((r.take i).foldl act (S, T0)).2.letters).map V.int))) ⟨_, _, rfl, But.refl _ _, b0, by rw [List.take_zero]; show H0 L = some (.lst ((ls ++ []).map V.int)); rw [List.append_nil]; exact hL0⟩ (fun i σ H' _ z => ?_) ?_ ?_
    · obtain ⟨_, _, _, z, z2, z3⟩ := z
      obtain ⟨_, _, _, g1, _⟩ := b0
      exact tupB z g1 hL0 ht0
    · rintro i y σ H1 hi ⟨o4, o5, rfl, b1, hb1, hL1⟩
      obtain ⟨a, ha, rfl⟩ := map_get hi
      have hi6 : i < 6 := Nat.lt_of_lt_of_le (List.getElem?_eq_some_iff.mp ha).1 hr6
      have bd1 : Bd (n + i) ((r.take i).foldl act (S, T0)) := (bd.foldl (r.take i)).mono (by rw [List.length_take]; omega)
      have nd1 : ((r.take i).foldl act (S, T0)).1.valid.Nodup := by
        obtain ⟨_, _, _, _, _, _, _, _, _, _, nd, _⟩ := hb1
        exact nd
      have step : (r.take (i + 1)).foldl act (S, T0) = act ((r.take i).foldl act (S, T0)) a := by
        rw [take_more ha, List.foldl_append]
        rfl
      rw [step]
      rcases hX : (r.take i).foldl act (S, T0) with ⟨X, Y⟩
      rw [hX] at hb1 hL1 bd1 nd1
      obtain ⟨l1, l3, ys, hbx, hl1, hl3, hp, ho, n1, n3, _, m1, m3⟩ := hb1
      simp only at hbx hl1 hl3 hp hL1
      have hasH : ∀ x ∈ as, H1 x ≠ none := fun x hx e => by
        by_cases z : x = L
        · rw [z, hL1] at e; cases e
        have hx1 : x ≠ bx := fun z => by rw [z, hbx] at e; cases e
        cases hxo : H0 x with
        | none => exact hasW x hx hxo
        | some o =>
          rw [b1 x o (by simp only [List.mem_cons, List.not_mem_nil, or_false, not_or]; exact ⟨hx1, z⟩) hxo] at e
          cases e
      have bmono : ∀ {H2 : Hp}, Same H1 H2 → But [bx, L] H0 H2 := fun s => b1.trans (But.of s)
      refine ⟨_, rfl, rfl, _, rfl, ?_⟩
      by_cases c3 : a = "look"
      · rw [str_eqT c3]
        have e0 : act (X, Y) a = ({ X with tf := if X.inside.isEmpty then "free" else "full" }, Y) := by
          rw [c3]; unfold act
          rw [if_neg (by decide +kernel), if_neg (by decide +kernel), if_pos rfl]
        rw [e0]
        refine ⟨_, rfl, bx, _, 1, _, rfl, rfl, SqL.of hbx, rfl, Nat.zero_le _, fun e he => ?_⟩
        have ne1 : bx ≠ e := ne_of_none hbx he
        have ne2 : l1 ≠ e := ne_of_none hl1 he
        have ne3 : L ≠ e := ne_of_none hL1 he
        have ne4 : l3 ≠ e := ne_of_none hl3 he
        refine ⟨.list (X.inside.map PyData.int), .list [], .lst (SqL.of (by rw [upd_ne ne2]; exact hl1)) (dp_flatInts K _ _), nilD upd_same, (sm_ints _).shaped (by decide), sm_nil.shaped (by decide), _, rfl, ?_⟩
        rw [eqv_nil]
        cases hie : X.inside.isEmpty with
        | true => exact ⟨_, rfl, bx, _, 2, 2, rfl, rfl, (by rw [upd_ne ne1]; exact hbx), rfl, _, _, rfl, (bmono (same_new he)).put (.inr (by simp)), ⟨l1, l3, ys, upd_same, by rw [upd_ne n1, upd_ne ne2]; exact hl1, by rw [upd_ne n3, upd_ne ne4]; exact hl3, hp, ho, n1, n3, nd1, m1, m3⟩, by rw [upd_ne Lbx, upd_ne ne3]; exact hL1⟩
        | false => exact ⟨_, rfl, bx, _, 2, 2, rfl, rfl, (by rw [upd_ne ne1]; exact hbx), rfl, _, _, rfl, (bmono (same_new he)).put (.inr (by simp)), ⟨l1, l3, ys, upd_same, by rw [upd_ne n1, upd_ne ne2]; exact hl1, by rw [upd_ne n3, upd_ne ne4]; exact hl3, hp, ho, n1, n3, nd1, m1, m3⟩, by rw [upd_ne Lbx, upd_ne ne3]; exact hL1⟩
      rw [str_eqF c3]
      refine ⟨_, rfl, rfl, _, rfl, ?_⟩
      by_cases c1 : a = "lock"
      · rw [str_eqT c1]
        have e0 : act (X, Y) a = ({ X with ajar := false }, Y) := by
          rw [c1]; unfold act
          rw [if_neg (by decide +kernel), if_neg (by decide +kernel), if_neg (by decide +kernel), if_pos rfl]
        rw [e0]
        refine ⟨_, rfl, bx, _, 0, 0, rfl, rfl, hbx, rfl, _, _, rfl, b1.put (.inr (by simp)), ⟨l1, l3, ys, upd_same, by rw [upd_ne n1]; exact hl1, by rw [upd_ne n3]; exact hl3, hp, ho, n1, n3, nd1, m1, m3⟩, by rw [upd_ne Lbx]; exact hL1⟩
      rw [str_eqF c1]
      refine ⟨_, rfl, rfl, _, rfl, ?_⟩
      by_cases c2 : a = "void"
      · rw [str_eqT c2]
        have e0 : act (X, Y) a = ({ X with valid := [] }, Y) := by
          rw [c2]; unfold act
          rw [if_neg (by decide +kernel), if_pos rfl]
        rw [e0]
        refine ⟨Nat.zero_le _, fun e he => ?_⟩
        have ne1 : bx ≠ e := ne_of_none hbx he
        have ne2 : l1 ≠ e := ne_of_none hl1 he
        have ne3 : L ≠ e := ne_of_none hL1 he
        refine ⟨_, rfl, bx, _, 3, 3, rfl, rfl, (by rw [upd_ne ne1]; exact hbx), rfl, _, _, rfl, (bmono (same_new he)).put (.inr (by simp)), ⟨l1, e, [], upd_same, by rw [upd_ne n1, upd_ne ne2]; exact hl1, by rw [upd_ne ne1.symm]; exact upd_same, .nil, .nil, n1, ne1.symm, List.nodup_nil, m1, fun z => hasH e z he⟩, by rw [upd_ne Lbx, upd_ne ne3]; exact hL1⟩
      rw [str_eqF c2]
      refine ⟨_, rfl, rfl, _, rfl, ?_⟩
      by_cases c4 : a = "code"
      · rw [str_eqT c4, Bool.not_true]
        have e0 : act (X, Y) a = sendCode (X, Y) := by rw [c4]; unfold act; rw [if_pos rfl]
        rw [e0]
        refine ⟨_, rfl, bx, _, 2, _, rfl, rfl, SqL.of hbx, rfl, rfl, _, rfl, ?_⟩
        by_cases cf : X.tf = "full"
        · rw [str_eqT cf]
          cases hlast : X.last with
          | none =>
            have e1 : sendCode (X, Y) = (X, Y) := by
              unfold sendCode
              simp only [if_pos cf, hlast]
            rw [e1]
            refine ⟨_, rfl, bx, _, 5, _, rfl, rfl, SqL.of hbx, rfl, rfl, _, rfl, ?_⟩
            rw [hlast] at hbx
            have e9 : (!decide (oV X.last = V.non)) = false := by rw [hlast]; rfl
            rw [e9]
            exact ⟨_, _, rfl, b1, ⟨l1, l3, ys, by rw [hlast]; exact hbx, hl1, hl3, hp, ho, n1, n3, nd1, m1, m3⟩, hL1⟩
          | some p9 =>
            have e1 : sendCode (X, Y) = ({ X with valid := ins p9 X.valid, sent := ins p9 X.sent }, { Y with letters := Y.letters ++ [p9] }) := by
              unfold sendCode
              simp only [if_pos cf, hlast]
            rw [e1, ← List.append_assoc]
            refine ⟨_, rfl, bx, _, 5, _, rfl, rfl, SqL.of hbx, rfl, rfl, _, rfl, ?_⟩
            have e9 : (!decide (oV X.last = V.non)) = true := by rw [hlast]; rfl
            rw [e9]
            rw [hlast] at hbx
            have hbx : H1 bx = some (.lst [.bl X.ajar, .ref l1, .str X.tf, .ref l3, oV X.age, .int p9]) := hbx
            have nbL : bx ≠ L := Lbx.symm
            have n1L : l1 ≠ L := fun z => m1 (by rw [z]; exact hLas)
            have n3L : l3 ≠ L := fun z => m3 (by rw [z]; exact hLas)
            have hle : (ls ++ Y.letters).length ≤ 300000 := by
              rw [List.length_append]
              have h9 : Y.letters.length ≤ n + i := bd1.l
              omega
            have hve : X.valid.length ≤ n + i := bd1.v
            have hyl : ys.length ≤ n + i := by rw [hp.length_eq]; exact hve
            refine ⟨_, rfl, .inl ⟨rfl, _, SqL.of hL1⟩, _, rfl, bx, _, 5, _, rfl, rfl, SqL.of hbx, rfl, L, _, _, rfl, rfl, hL1, by rw [List.length_map]; exact lt_line (by omega), ?_⟩
            have hbx2 : upd H1 L (.lst ((ls ++ Y.letters).map V.int ++ [.int p9])) bx = _ := (upd_ne nbL).trans hbx
            have hl12 : upd H1 L (.lst ((ls ++ Y.letters).map V.int ++ [.int p9])) l1 = _ := (upd_ne n1L).trans hl1
            have hl32 : upd H1 L (.lst ((ls ++ Y.letters).map V.int ++ [.int p9])) l3 = _ := (upd_ne n3L).trans hl3
            have hL2 : upd H1 L (.lst ((ls ++ Y.letters).map V.int ++ [.int p9])) L = some (.lst (((ls ++ Y.letters) ++ [p9]).map V.int)) := by rw [upd_same]; simp
            have b2 := b1.put (a := L) (o := .lst ((ls ++ Y.letters).map V.int ++ [.int p9])) (.inr (by simp))
            have hasH2 : ∀ x ∈ as, upd H1 L (.lst ((ls ++ Y.letters).map V.int ++ [.int p9])) x ≠ none := fun x hx e => by
              by_cases z : x = L
              · rw [z, upd_same] at e; cases e
              · rw [upd_ne z] at e; exact hasH x hx e
            generalize upd H1 L (.lst ((ls ++ Y.letters).map V.int ++ [.int p9])) = H2 at hbx2 hl12 hl32 hL2 b2 hasH2
            refine ⟨_, rfl, bx, _, 3, _, rfl, rfl, SqL.of hbx2, rfl, l3, rfl, ⟨_, SqL.of hl32⟩, fun D hD => ?_⟩
            refine lc_list (K := K) (a := l3) (xs := ys.map V.int) (fun j H' => Same H2 H' ∧ H' D = some (.lst (((ys.take j).filter fun q => decide (q ≠ p9)).map V.int))) ⟨same_new hD, upd_same⟩ (fun j H' _ z => SqL.of (z.1 _ _ hl32)) ?_ ?_
            · rintro j y H' hj ⟨s', hD'⟩
              obtain ⟨z, hz, rfl⟩ := map_get hj
              have hfl : ((ys.take j).filter fun q => decide (q ≠ p9)).length ≤ n + i := by
                refine Nat.le_trans (List.length_filter_le _ _) ?_
                rw [List.length_take]
                omega
              refine ⟨rfl, _, rfl, _, rfl, bx, _, 5, _, rfl, rfl, SqL.of (s' _ _ hbx2), rfl, rfl, _, rfl, ?_⟩
              show if (!decide (V.int z = V.int p9)) = true then _ else _
              by_cases ez : z = p9
              · have e9 : decide (V.int z = V.int p9) = true := decide_eq_true (by rw [ez])
                rw [e9]
                refine ⟨s', ?_⟩
                rw [hD', take_more hz, List.filter_append]
                have e8 : [z].filter (fun q => decide (q ≠ p9)) = [] := by rw [ez]; simp
                rw [e8, List.append_nil]
              · have e9 : decide (V.int z = V.int p9) = false := decide_eq_false fun e => ez (V.int.inj e)
                rw [e9]
                refine ⟨_, rfl, _, hD', by rw [List.length_map]; exact lt_line (by omega), same_upd s' hD, ?_⟩
                rw [upd_same, take_more hz, List.filter_append]
                have e8 : [z].filter (fun q => decide (q ≠ p9)) = [z] := by simp [ez]
                rw [e8, List.map_append]
                rfl
            · rintro H3 ⟨s3, hD3⟩
              rw [List.length_map, List.take_length] at hD3
              have hfl : (ys.filter fun q => decide (q ≠ p9)).length ≤ n + i := Nat.le_trans (List.length_filter_le _ _) hyl
              refine ⟨_, rfl, bx, _, 5, _, rfl, rfl, SqL.of (s3 _ _ hbx2), rfl, by show 1 ≤ sizeLine; decide, fun g hg => ?_⟩
              have s4 : Same H3 (upd H3 g (.lst [.int p9])) := same_new hg
              refine ⟨D, g, _, _, rfl, rfl, s4 _ _ hD3, upd_same, by rw [List.length_map]; exact Nat.le_of_lt (lt_line (by show _ + 1 ≤ 1000000; omega)), fun c hc => ?_⟩
              have ec : (ys.filter fun q => decide (q ≠ p9)).map V.int ++ [V.int p9] = ((ys.filter fun q => decide (q ≠ p9)) ++ [p9]).map V.int := by rw [List.map_append]; rfl
              have s5 := s4.trans (same_new (o := .lst ((ys.filter fun q => decide (q ≠ p9)).map V.int ++ [V.int p9])) hc)
              refine ⟨c, (ys.filter fun q => decide (q ≠ p9)) ++ [p9], rfl, SqL.of (by rw [← ec]; exact upd_same), fun zs e hzp hzs he => ?_⟩
              have s6 := s5.trans (same_new (o := .lst (zs.map V.int)) he)
              have s36 := s3.trans s6
              have ne1 : bx ≠ e := ne_of_none (s5 _ _ (s3 _ _ hbx2)) he
              have ne3 : L ≠ e := ne_of_none (s5 _ _ (s3 _ _ hL2)) he
              have nem : e ∉ as := fun z => by
                have h0 := hasH2 e z
                cases hxo : H2 e with
                | none => exact h0 hxo
                | some o =>
                  have := (s3.trans s5) _ _ hxo
                  rw [he] at this
                  cases this
              refine ⟨_, rfl, bx, _, 3, 3, rfl, rfl, s36 _ _ hbx2, rfl, _, _, rfl, (b2.trans (But.of s36)).put (.inr (by simp)), ⟨l1, e, zs, ?_, by rw [upd_ne n1]; exact s36 _ _ hl12, by rw [upd_ne ne1.symm]; exact upd_same, hzp.trans (ins_perm hp nd1), hzs, n1, ne1.symm, ?_, m1, nem⟩, by rw [upd_ne Lbx]; exact s36 _ _ hL2⟩
              · rw [upd_same]
                show _ = some (HO.lst [.bl X.ajar, .ref l1, .str X.tf, .ref e, oV X.age, oV X.last])
                rw [hlast]
                rfl
              · have := fold_valid [("code" : Str)] (X, Y) nd1
                have e7 : [("code" : Str)].foldl act (X, Y) = sendCode (X, Y) := by
                  show act (X, Y) "code" = _
                  unfold act
                  rw [if_pos rfl]
                rw [e7, e1] at this
                exact this
        · rw [str_eqF cf]
          have e1 : sendCode (X, Y) = (X, Y) := by
            unfold sendCode
            rw [if_neg cf]
          rw [e1]
          exact ⟨_, _, rfl, b1, ⟨l1, l3, ys, hbx, hl1, hl3, hp, ho, n1, n3, nd1, m1, m3⟩, hL1⟩
      rw [str_eqF c4, Bool.not_false]
      have e0 : act (X, Y) a = ({ X with tf := a }, Y) := by
        unfold act
        rw [if_neg c4, if_neg c2, if_neg c3, if_neg c1]
      rw [e0]
      refine ⟨_, rfl, _, rfl, bx, _, 2, 2, rfl, rfl, hbx, rfl, _, _, rfl, b1.put (.inr (by simp)), ⟨l1, l3, ys, upd_same, by rw [upd_ne n1]; exact hl1, by rw [upd_ne n3]; exact hl3, hp, ho, n1, n3, nd1, m1, m3⟩, by rw [upd_ne Lbx]; exact hL1⟩
    · rintro σ H1 ⟨o4, o5, rfl, b1, hb1, hL1⟩
      rw [List.length_map, List.take_length] at hb1 hL1
      exact q H1 ((But.of s0).trans b1) hb1 hL1
theorem c_law_carry (T : Txt w K mg) : C8.Cal P w K mg base 2 "_law_carry" (sp_law_carry K) [] := by
  obtain ⟨fd, F⟩ := T.f_law_carry
  exact ⟨_, fd, _, _, ok_law_carry T F, T.g_law_carry, F.kp, F.bindsN (fun _ _ _ _ _ _ us hl => match us, hl with | [_, _, _, _], _ => rfl), .nil⟩
end
end K15

namespace K15
open PySem PySem.Spec PyProof.Rows L2 My StX
def leaveF (rb : List RuleL) (s : Bool) (i1 i2 : Nat) (S : BoxS) : BoxS × ToldS := if S.ajar = true then (at_ rb (if s = true then i1 else i2)).foldl act ({ S with ajar := !s }, T0) else (S, T0)
theorem carry_T (r : RuleL) (m : Str) (S : BoxS) (U : ToldS) : (carry r m (S, U)).1 = (r.foldl act (S, T0)).1 ∧ (carry r m (S, U)).2 = { U with letters := U.letters ++ (r.foldl act (S, T0)).2.letters, moments := U.moments ++ [m] } := by
  unfold carry
  exact fold_T r S { U with moments := U.moments ++ [m] }
theorem go_T (rb : List RuleL) (s : Bool) (m1 m2 : Str) (i1 i2 : Nat) (S : BoxS) (U : ToldS) : (goAway s m1 m2 (at_ rb i1) (at_ rb i2) (S, U)).1 = (leaveF rb s i1 i2 S).1 ∧ (goAway s m1 m2 (at_ rb i1) (at_ rb i2) (S, U)).2.letters = U.letters ++ (leaveF rb s i1 i2 S).2.letters ∧
    (goAway s m1 m2 (at_ rb i1) (at_ rb i2) (S, U)).2.opened = U.opened ∧ (goAway s m1 m2 (at_ rb i1) (at_ rb i2) (S, U)).2.got = U.got := by
  unfold goAway leaveF
  obtain ⟨aj, ii, tf, va, ag, la, sn, sv⟩ := S
  cases aj with
  | false =>
    rw [if_neg (show ¬ ((false : Bool) = true) from Bool.false_ne_true), if_neg (show ¬ ((false : Bool) = true) from Bool.false_ne_true)]
    exact ⟨rfl, (List.append_nil _).symm, rfl, rfl⟩
  | true =>
    rw [if_pos (show (true : Bool) = true from rfl), if_pos (show (true : Bool) = true from rfl)]
    cases s with
    | true =>
      have h := carry_T (at_ rb i1) m1 ⟨false, ii, tf, va, ag, la, sn, sv⟩ U
      refine ⟨h.1, ?_, ?_, ?_⟩
      · show (carry (at_ rb i1) m1 (⟨false, ii, tf, va, ag, la, sn, sv⟩, U)).2.letters = _
        rw [h.2]; rfl
      · show (carry (at_ rb i1) m1 (⟨false, ii, tf, va, ag, la, sn, sv⟩, U)).2.opened = _
        rw [h.2]
      · show (carry (at_ rb i1) m1 (⟨false, ii, tf, va, ag, la, sn, sv⟩, U)).2.got = _
        rw [h.2]
    | false =>
      have h := carry_T (at_ rb i2) m2 ⟨true, ii, tf, va, ag, la, sn, sv⟩ U
      refine ⟨h.1, ?_, ?_, ?_⟩
      · show (carry (at_ rb i2) m2 (⟨true, ii, tf, va, ag, la, sn, sv⟩, U)).2.letters = _
        rw [h.2]; rfl
      · show (carry (at_ rb i2) m2 (⟨true, ii, tf, va, ag, la, sn, sv⟩, U)).2.opened = _
        rw [h.2]
      · show (carry (at_ rb i2) m2 (⟨true, ii, tf, va, ag, la, sn, sv⟩, U)).2.got = _
        rw [h.2]
theorem act_age (x : BoxS × ToldS) (a : Str) : (act x a).1.age = x.1.age := by
  unfold act
  split
  · unfold sendCode
    split
    · split <;> rfl
    · rfl
  · split
    · rfl
    · split
      · rfl
      · split <;> rfl
theorem fold_keeps : ∀ (r : RuleL) (x : BoxS × ToldS), (r.foldl act x).1.inside = x.1.inside ∧ (r.foldl act x).1.last = x.1.last ∧ (r.foldl act x).1.age = x.1.age
  | [], x => ⟨rfl, rfl, rfl⟩
  | a :: r, x => by
    rw [List.foldl_cons]
    exact ⟨(fold_keeps r _).1.trans (act_keeps x a).1, (fold_keeps r _).2.1.trans (act_keeps x a).2, (fold_keeps r _).2.2.trans (act_age x a)⟩
theorem addW_T (c : Bool) (wd : Str) (x : BoxS × ToldS) : (addW c wd x).1 = x.1 ∧ (addW c wd x).2.letters = x.2.letters ∧ (addW c wd x).2.got = x.2.got ∧ (addW c wd x).2.opened = x.2.opened := by
  unfold addW
  split
  · exact ⟨rfl, rfl, rfl, rfl⟩
  · exact ⟨rfl, rfl, rfl, rfl⟩
theorem code_no {rb : List RuleL} {p : Int} {tk sh : Bool} {S : BoxS} (hv : p ∈ S.valid) (h : ¬ (tk = true ∧ ((at_ rb 3).foldl act (({ S with ajar := true } : BoxS), T0)).1.ajar = true)) :
    (codeF rb p tk sh S).1 = (leaveF rb sh 4 5 ((at_ rb 3).foldl act (({ S with ajar := true } : BoxS), T0)).1).1 ∧ (codeF rb p tk sh S).2.letters = ((at_ rb 3).foldl act (({ S with ajar := true } : BoxS), T0)).2.letters ++ (leaveF rb sh 4 5 ((at_ rb 3).foldl act (({ S with ajar := true } : BoxS), T0)).1).2.letters ∧
    (codeF rb p tk sh S).2.got = [] ∧ (codeF rb p tk sh S).2.opened = true := by
  have c := carry_T (at_ rb 3) "opened" { S with ajar := true } { T0 with opened := true }
  unfold codeF
  rw [if_pos hv]
  generalize carry (at_ rb 3) "opened" (({ S with ajar := true } : BoxS), ({ T0 with opened := true } : ToldS)) = x0 at c
  have et : takeIf p tk x0 = x0 := by
    unfold takeIf
    rw [c.1, if_neg h]
  rw [et]
  obtain ⟨a1, a2, a3, a4⟩ := addW_T (missF p S) "empty" x0
  obtain ⟨g1, g2, g3, g4⟩ := go_T rb sh "taken" "gone" 4 5 (addW (missF p S) "empty" x0).1 (addW (missF p S) "empty" x0).2
  refine ⟨g1.trans (by rw [a1, c.1]), g2.trans (by rw [a1, a2, c.1, c.2]; rfl), g4.trans (by rw [a3, c.2]; rfl), g3.trans (by rw [a4, c.2])⟩
theorem code_tk {rb : List RuleL} {p : Int} {sh : Bool} {S : BoxS} (hv : p ∈ S.valid) (h : ((at_ rb 3).foldl act (({ S with ajar := true } : BoxS), T0)).1.ajar = true) : ∃ sv : List Int,
    (codeF rb p true sh S).1 = (leaveF rb sh 4 5 { ((at_ rb 3).foldl act (({ S with ajar := true } : BoxS), T0)).1 with inside := [], served := sv }).1 ∧ (codeF rb p true sh S).2.letters = ((at_ rb 3).foldl act (({ S with ajar := true } : BoxS), T0)).2.letters ++ (leaveF rb sh 4 5 { ((at_ rb 3).foldl act (({ S with ajar := true } : BoxS), T0)).1 with inside := [], served := sv }).2.letters ∧
    (codeF rb p true sh S).2.got = ((at_ rb 3).foldl act (({ S with ajar := true } : BoxS), T0)).1.inside ∧ (codeF rb p true sh S).2.opened = true ∧ sv.length ≤ ((at_ rb 3).foldl act (({ S with ajar := true } : BoxS), T0)).1.served.length + 1 := by
  have c := carry_T (at_ rb 3) "opened" { S with ajar := true } { T0 with opened := true }
  unfold codeF
  rw [if_pos hv]
  generalize carry (at_ rb 3) "opened" (({ S with ajar := true } : BoxS), ({ T0 with opened := true } : ToldS)) = x0 at c
  have et : takeIf p true x0 = letTake (some p) x0 := by
    unfold takeIf
    rw [if_pos ⟨rfl, by rw [c.1]; exact h⟩]
  rw [et]
  obtain ⟨a1, a2, a3, a4⟩ := addW_T (missF p S) "empty" (letTake (some p) x0)
  obtain ⟨g1, g2, g3, g4⟩ := go_T rb sh "taken" "gone" 4 5 (addW (missF p S) "empty" (letTake (some p) x0)).1 (addW (missF p S) "empty" (letTake (some p) x0)).2
  have l1 : (letTake (some p) x0).1 = { ((at_ rb 3).foldl act (({ S with ajar := true } : BoxS), T0)).1 with inside := [], served := if p ∈ x0.1.inside then ins p x0.1.served else x0.1.served } := by
    show ({ x0.1 with inside := [], served := if p ∈ x0.1.inside then ins p x0.1.served else x0.1.served } : BoxS) = _
    rw [c.1]
  have l2 : (letTake (some p) x0).2.letters = ((at_ rb 3).foldl act (({ S with ajar := true } : BoxS), T0)).2.letters := by
    show x0.2.letters = _
    rw [c.2]; rfl
  have l3 : (letTake (some p) x0).2.got = ((at_ rb 3).foldl act (({ S with ajar := true } : BoxS), T0)).1.inside := by
    show x0.1.inside = _
    rw [c.1]
  have l4 : (letTake (some p) x0).2.opened = true := by
    show x0.2.opened = _
    rw [c.2]
  refine ⟨_, g1.trans (by rw [a1, l1]), g2.trans (by rw [a1, a2, l1, l2]), g4.trans (by rw [a3, l3]), g3.trans (by rw [a4, l4]), ?_⟩
  rw [c.1]
  split
  · unfold ins
    split
    · omega
    · rw [List.length_append]; exact Nat.le_refl _
  · omega
theorem bring_no {rb : List RuleL} {p : Int} {l sh : Bool} {S : BoxS} (hf : S.tf = "free") (h : ¬ (l = true ∧ ((at_ rb 0).foldl act (({ S with ajar := true, age := some 0, last := some p } : BoxS), T0)).1.ajar = true)) :
    (bringF rb p l sh S).1 = (leaveF rb sh 1 2 ((at_ rb 0).foldl act (({ S with ajar := true, age := some 0, last := some p } : BoxS), T0)).1).1 ∧ (bringF rb p l sh S).2.letters = ((at_ rb 0).foldl act (({ S with ajar := true, age := some 0, last := some p } : BoxS), T0)).2.letters ++ (leaveF rb sh 1 2 ((at_ rb 0).foldl act (({ S with ajar := true, age := some 0, last := some p } : BoxS), T0)).1).2.letters ∧
    (bringF rb p l sh S).2.got = [] ∧ (bringF rb p l sh S).2.opened = true := by
  have c := carry_T (at_ rb 0) "given" { S with ajar := true, age := some 0, last := some p } { T0 with opened := true }
  unfold bringF
  rw [if_pos hf]
  generalize carry (at_ rb 0) "given" (({ S with ajar := true, age := some 0, last := some p } : BoxS), ({ T0 with opened := true } : ToldS)) = x0 at c
  have et : layIn p l x0 = x0 := by
    unfold layIn
    rw [c.1, if_neg h]
  rw [et]
  obtain ⟨g1, g2, g3, g4⟩ := go_T rb sh "laid" "left" 1 2 x0.1 x0.2
  refine ⟨g1.trans (by rw [c.1]), g2.trans (by rw [c.1, c.2]; rfl), g4.trans (by rw [c.2]; rfl), g3.trans (by rw [c.2])⟩
theorem bring_lay {rb : List RuleL} {p : Int} {sh : Bool} {S : BoxS} (hf : S.tf = "free") (h : ((at_ rb 0).foldl act (({ S with ajar := true, age := some 0, last := some p } : BoxS), T0)).1.ajar = true) :
    (bringF rb p true sh S).1 = (leaveF rb sh 1 2 { ((at_ rb 0).foldl act (({ S with ajar := true, age := some 0, last := some p } : BoxS), T0)).1 with inside := ((at_ rb 0).foldl act (({ S with ajar := true, age := some 0, last := some p } : BoxS), T0)).1.inside ++ [p] }).1 ∧
    (bringF rb p true sh S).2.letters = ((at_ rb 0).foldl act (({ S with ajar := true, age := some 0, last := some p } : BoxS), T0)).2.letters ++ (leaveF rb sh 1 2 { ((at_ rb 0).foldl act (({ S with ajar := true, age := some 0, last := some p } : BoxS), T0)).1 with inside := ((at_ rb 0).foldl act (({ S with ajar := true, age := some 0, last := some p } : BoxS), T0)).1.inside ++ [p] }).2.letters ∧
    (bringF rb p true sh S).2.got = [] ∧ (bringF rb p true sh S).2.opened = true := by
  have c := carry_T (at_ rb 0) "given" { S with ajar := true, age := some 0, last := some p } { T0 with opened := true }
  unfold bringF
  rw [if_pos hf]
  generalize carry (at_ rb 0) "given" (({ S with ajar := true, age := some 0, last := some p } : BoxS), ({ T0 with opened := true } : ToldS)) = x0 at c
  obtain ⟨y1, y2⟩ := x0
  simp only at c
  have et : layIn p true (y1, y2) = ({ y1 with inside := y1.inside ++ [p] }, { y2 with wrongs := if y1.inside.isEmpty = true then y2.wrongs else y2.wrongs ++ [("two" : Str)] }) := by
    unfold layIn
    rw [if_pos ⟨rfl, by show y1.ajar = true; rw [c.1]; exact h⟩]
  rw [et]
  obtain ⟨g1, g2, g3, g4⟩ := go_T rb sh "laid" "left" 1 2 { y1 with inside := y1.inside ++ [p] } { y2 with wrongs := if y1.inside.isEmpty = true then y2.wrongs else y2.wrongs ++ [("two" : Str)] }
  have q2 : y2.letters = ((at_ rb 0).foldl act (({ S with ajar := true, age := some 0, last := some p } : BoxS), T0)).2.letters := by rw [c.2]; rfl
  have q3 : y2.got = [] := by rw [c.2]; rfl
  have q4 : y2.opened = true := by rw [c.2]
  refine ⟨g1.trans (by rw [c.1]), g2.trans (by show y2.letters ++ _ = _; rw [q2, c.1]), g4.trans q3, g3.trans q4⟩
section
variable {K : PySem.W.Frag} {σ : L2.St} {H : Hp} {t : Addr} {hd wd : Str} {rest : List V}
theorem wd_eq (h3 : σ[3]? = some (some (V.ref t))) (ht : SqT K H t (V.str hd :: rest)) {Q' : Bool → Hp → Prop} (q : Q' (decide (hd = wd)) H) : tTest (tOp rEq (tOp (rIxT K) (tVar 3) (tC (V.int 0))) (tC (V.str wd))) σ H Q' := by
  have e : decide (V.str hd = V.str wd) = decide (hd = wd) := by
    by_cases c : hd = wd
    · rw [decide_eq_true c, decide_eq_true (by rw [c])]
    · rw [decide_eq_false c, decide_eq_false fun z => c (V.str.inj z)]
  exact ⟨_, h3, t, _, ((0 : Nat) : Int), _, rfl, rfl, ht, atI_nat (show (V.str hd :: rest)[0]? = some (V.str hd) from rfl), rfl, _, rfl, by rw [e]; exact q⟩
theorem wd_no (h3 : σ[3]? = some (some (V.ref t))) (ht : SqT K H t (V.str hd :: rest)) (ne : hd ≠ wd) {tt : TT} {Q' : Bool → Hp → Prop} (q : Q' false H) : tAnd (tTest (tOp rEq (tOp (rIxT K) (tVar 3) (tC (V.int 0))) (tC (V.str wd)))) tt σ H Q' := by
  refine wd_eq h3 ht ?_
  rw [decide_eq_false ne]
  exact q
theorem wd_yes (h3 : σ[3]? = some (some (V.ref t))) (ht : SqT K H t (V.str hd :: rest)) (e : hd = wd) {tt : TT} {Q' : Bool → Hp → Prop} (q : tt σ H Q') : tAnd (tTest (tOp rEq (tOp (rIxT K) (tVar 3) (tC (V.int 0))) (tC (V.str wd)))) tt σ H Q' := by
  refine wd_eq h3 ht ?_
  rw [decide_eq_true e]
  exact q
end
end K15

namespace K15
open PySem PySem.Spec PyProof.Rows L2 My StX
section
variable {P : Program} {w : World} {K : PySem.W.Frag} {mg : Str → Option Value} {base : Heap}
def sp_law_shut (K : PySem.W.Frag) : Sp := fun vs H Q _ => ∃ (bx pl L W : Addr) (m1 m2 : Str) (i1 i2 : Nat) (s : Bool) (d : Int) (rs : List RuleL) (S : BoxS) (ls : List Int) (as : List Addr) (n : Nat), vs = [.ref bx, .ref pl, .bl s, .ref W, .ref L] ∧ PlanAt K H pl d rs ∧ GoodB rs ∧ moms[i1]? = some m1 ∧ moms[i2]? = some m2 ∧ H W = some (.lst [.str m1, .str m2]) ∧ LB5 as H bx S ∧ L ∈ as ∧ L ≠ bx ∧ H L = some (.lst (ls.map V.int)) ∧ (∀ x ∈ as, H x ≠ none) ∧ Bd n (S, T0) ∧ n ≤ 100000 ∧ ls.length ≤ 100000 ∧
  ∀ (H' : Hp), But [bx, L] H H' → LB5 as H' bx (leaveF rs s i1 i2 S).1 → H' L = some (.lst ((ls ++ (leaveF rs s i1 i2 S).2.letters).map V.int)) → Q .non H'
set_option maxHeartbeats 2000000 in
theorem ok_law_shut (T : Txt w K mg) {fd : FuncData} (F : FunD K d_law_shut.name d_law_shut.qual d_law_shut.params d_law_shut.body d_law_shut.scope (d_law_shut.dvs K) (d_law_shut.kws K) (He.fAd K d_law_shut.at_) fd) : FnOk P w K mg base C8.CX0 3 (He.fAd K d_law_shut.at_) fd ["state", "plan", "is_shut", "words", "letters"] (sp_law_shut K) := by
  have c_law_carry := c_law_carry (P := P) (w := w) (base := base) T
  refine F.ok sc_law_shut (fun vs H Q E h => ?_) (fun cdv A outer s H vs Q E hr h => ?_)
  · obtain ⟨bx, pl, L, W, m1, m2, i1, i2, s, d, rs, S, ls, as, n, rfl, _⟩ := h
    rfl
  · have hu := L2.hu_of hr
    obtain ⟨bx, pl, L, W, m1, m2, i1, i2, s, d, rs, S, ls, as, n, rfl, hp, hg, hm1, hm2, hW, hb, hLas, Lbx, hL, has, bd, hn, hls, q⟩ := h
    refine ⟨_, (PSs.nox ((pss_one (ps_if (pt_val (pe_ix (My.ix_listK (K := K) rfl) (pv 0) pe_int (fun _ _ => rfl)))
  (pss_cons (ps_asg (pe_not (pv 2)) (pg_sub (pv 0) pe_int set_list))
  (pss_one (ps_expr (C8.pe_c c_law_carry hr (by decide) rfl (pa_cons (pv 0) (pa_cons (pv 1) (pa_cons (pe_ifExp (pt_val (pv 2)) (pe_ix (My.ix_listK (K := K) rfl) (pv 3) pe_int (fun _ _ => rfl)) (pe_ix (My.ix_listK (K := K) rfl) (pv 3) pe_int (fun _ _ => rfl))) (pa_cons (pv 4) pa_nil))))))))
  pss_nil)))), ?_⟩
    obtain ⟨l1, l3, ys, hbx, hl1, hl3, hpm, ho, n1, n3, nd, u1, u3⟩ := id hb
    refine ⟨_, rfl, bx, _, 0, _, rfl, rfl, SqL.of hbx, rfl, _, rfl, ?_⟩
    unfold leaveF at q
    by_cases c : S.ajar = true
    · rw [if_pos c] at q
      rw [c]
      have nW : W ≠ bx := fun z => by rw [z, hbx] at hW; cases hW
      refine ⟨_, rfl, _, rfl, _, rfl, bx, _, 0, 0, rfl, rfl, hbx, rfl, ?_⟩
      have b1 : But [bx, L] H (upd H bx (.lst [.bl (!s), .ref l1, .str S.tf, .ref l3, oV S.age, oV S.last])) := (But.refl _ _).put (.inr (by simp))
      have hb1 : LB5 as (upd H bx (.lst [.bl (!s), .ref l1, .str S.tf, .ref l3, oV S.age, oV S.last])) bx { S with ajar := !s } := ⟨l1, l3, ys, upd_same, (upd_ne n1).trans hl1, (upd_ne n3).trans hl3, hpm, ho, n1, n3, nd, u1, u3⟩
      have hp1 : PlanAt K (upd H bx (.lst [.bl (!s), .ref l1, .str S.tf, .ref l3, oV S.age, oV S.last])) pl d rs := hp.putL hbx
      have hL1 : upd H bx (.lst [.bl (!s), .ref l1, .str S.tf, .ref l3, oV S.age, oV S.last]) L = _ := (upd_ne Lbx).trans hL
      have hW1 : upd H bx (.lst [.bl (!s), .ref l1, .str S.tf, .ref l3, oV S.age, oV S.last]) W = _ := (upd_ne nW).trans hW
      have has1 : ∀ x ∈ as, upd H bx (.lst [.bl (!s), .ref l1, .str S.tf, .ref l3, oV S.age, oV S.last]) x ≠ none := fun x hx e => by
        by_cases z : x = bx
        · rw [z, upd_same] at e; cases e
        · rw [upd_ne z] at e; exact has x hx e
      have bd1 : Bd n (({ S with ajar := !s } : BoxS), T0) := ⟨bd.i, bd.v, bd.s, bd.r, bd.l, bd.w, bd.m⟩
      show Ends.nx _ _ (upd H bx (.lst [.bl (!s), .ref l1, .str S.tf, .ref l3, oV S.age, oV S.last]))
      generalize upd H bx (.lst [.bl (!s), .ref l1, .str S.tf, .ref l3, oV S.age, oV S.last]) = H1 at b1 hb1 hp1 hL1 hW1 has1
      refine ⟨_, rfl, _, rfl, _, rfl, _, rfl, ?_⟩
      cases s with
      | true => exact ⟨_, rfl, W, _, 0, _, rfl, rfl, SqL.of hW1, atI_nat (j := 0) rfl, _, rfl, bx, pl, L, m1, i1, d, rs, _, ls, as, n, rfl, hp1, hg, hm1, hb1, hLas, Lbx, hL1, has1, bd1, hn, hls, fun H' b2 hb2 hL2 => q H' (b1.trans b2) hb2 hL2⟩
      | false => exact ⟨_, rfl, W, _, 1, _, rfl, rfl, SqL.of hW1, atI_nat (j := 1) rfl, _, rfl, bx, pl, L, m2, i2, d, rs, _, ls, as, n, rfl, hp1, hg, hm2, hb1, hLas, Lbx, hL1, has1, bd1, hn, hls, fun H' b2 hb2 hL2 => q H' (b1.trans b2) hb2 hL2⟩
    · rw [if_neg c] at q
      have c2 : S.ajar = false := by simpa using c
      rw [c2]
      exact q H (But.refl _ _) hb (by show H L = some (.lst ((ls ++ []).map V.int)); rw [List.append_nil]; exact hL)
theorem c_law_shut (T : Txt w K mg) : C8.Cal P w K mg base 3 "_law_shut" (sp_law_shut K) [] := by
  obtain ⟨fd, F⟩ := T.f_law_shut
  exact ⟨_, fd, _, _, ok_law_shut T F, T.g_law_shut, F.kp, F.bindsN (fun _ _ _ _ _ _ us hl => match us, hl with | [_, _, _, _, _], _ => rfl), .nil⟩
end
end K15

namespace K15
open PySem PySem.Spec PyProof.Rows L2 My StX
section
variable {σ : L2.St} {H : Hp} {wd wq : Str} {tt : TT} {tb rest : TS} {D : Ends}
theorem wq_no (h6 : σ[6]? = some (some (V.str wd))) (ne : wd ≠ wq) (q : rest D σ H) : tSeq (tIfS (tAnd (tTest (tOp rEq (tVar 6) (tC (V.str wq)))) tt) tb tNext) rest D σ H := by
  refine ⟨_, h6, rfl, _, rfl, ?_⟩
  rw [str_eqF ne]
  exact q
theorem wq_yes (h6 : σ[6]? = some (some (V.str wd))) (e : wd = wq) (q : tt σ H fun b H1 => if b = true then tb { D with nx := rest D } σ H1 else rest D σ H1) : tSeq (tIfS (tAnd (tTest (tOp rEq (tVar 6) (tC (V.str wq)))) tt) tb tNext) rest D σ H := by
  refine ⟨_, h6, rfl, _, rfl, ?_⟩
  rw [str_eqT e]
  exact q
theorem wp_no (h6 : σ[6]? = some (some (V.str wd))) (ne : wd ≠ wq) (q : rest D σ H) : tSeq (tIfS (tTest (tOp rEq (tVar 6) (tC (V.str wq)))) tb tNext) rest D σ H := by
  refine ⟨_, h6, rfl, _, rfl, ?_⟩
  rw [str_eqF ne]
  exact q
theorem wp_yes (h6 : σ[6]? = some (some (V.str wd))) (e : wd = wq) (q : tb { D with nx := rest D } σ H) : tSeq (tIfS (tTest (tOp rEq (tVar 6) (tC (V.str wq)))) tb tNext) rest D σ H := by
  refine ⟨_, h6, rfl, _, rfl, ?_⟩
  rw [str_eqT e]
  exact q
end
theorem nBC : ("bring" : Str) ≠ "code" := by decide +kernel
theorem nBP : ("bring" : Str) ≠ "pass" := by decide +kernel
theorem nBD : ("bring" : Str) ≠ "day" := by decide +kernel
theorem nBW : ("bring" : Str) ≠ "power" := by decide +kernel
theorem nCB : ("code" : Str) ≠ "bring" := by decide +kernel
theorem nCP : ("code" : Str) ≠ "pass" := by decide +kernel
theorem nCD : ("code" : Str) ≠ "day" := by decide +kernel
theorem nCW : ("code" : Str) ≠ "power" := by decide +kernel
theorem nPB : ("pass" : Str) ≠ "bring" := by decide +kernel
theorem nPC : ("pass" : Str) ≠ "code" := by decide +kernel
theorem nPD : ("pass" : Str) ≠ "day" := by decide +kernel
theorem nPW : ("pass" : Str) ≠ "power" := by decide +kernel
theorem nDB : ("day" : Str) ≠ "bring" := by decide +kernel
theorem nDC : ("day" : Str) ≠ "code" := by decide +kernel
theorem nDP : ("day" : Str) ≠ "pass" := by decide +kernel
theorem nDW : ("day" : Str) ≠ "power" := by decide +kernel
theorem nWB : ("power" : Str) ≠ "bring" := by decide +kernel
theorem nWC : ("power" : Str) ≠ "code" := by decide +kernel
theorem nWP : ("power" : Str) ≠ "pass" := by decide +kernel
theorem nWD : ("power" : Str) ≠ "day" := by decide +kernel
/-- a report as the walk tells it, none of whose lists is one of these -/
def Rep5 (as : List Addr) (H : Hp) (p : Addr) (U : ToldS) : Prop := ∃ e1 e2, H p = some (.tup [.ref e1, .bl U.opened, .ref e2]) ∧ H e1 = some (.lst (U.letters.map V.int)) ∧ H e2 = some (.lst (U.got.map V.int)) ∧ e1 ∉ as ∧ e2 ∉ as
def wordD : Deed → Str
  | .bring _ _ => "bring"
  | .code _ _ _ => "code"
  | .pass => "pass"
  | .day => "day"
  | .power => "power"
theorem word_at (dd : Deed) : dd.vs[0]? = some (.str (wordD dd)) := by cases dd <;> rfl
theorem LB5.new {as : List Addr} {H : Hp} {bx L : Addr} {S : BoxS} (h : LB5 as H bx S) (hL : H L = none) : LB5 (L :: as) H bx S := by
  obtain ⟨l1, l3, ys, h1, h2, h3, h4, h5, h6, h7, h8, h10, h11⟩ := h
  refine ⟨l1, l3, ys, h1, h2, h3, h4, h5, h6, h7, h8, fun z => ?_, fun z => ?_⟩
  · rcases List.mem_cons.mp z with z | z
    · exact ne_of_none h2 hL z
    · exact h10 z
  · rcases List.mem_cons.mp z with z | z
    · exact ne_of_none h3 hL z
    · exact h11 z
theorem LB5.less {as : List Addr} {H : Hp} {bx L : Addr} {S : BoxS} (h : LB5 (L :: as) H bx S) : LB5 as H bx S := by
  obtain ⟨l1, l3, ys, h1, h2, h3, h4, h5, h6, h7, h8, h10, h11⟩ := h
  exact ⟨l1, l3, ys, h1, h2, h3, h4, h5, h6, h7, h8, fun z => h10 (List.mem_cons_of_mem _ z), fun z => h11 (List.mem_cons_of_mem _ z)⟩
/-- where the walk stands amid a report -/
structure St5 (K : PySem.W.Frag) (as : List Addr) (bx pl t L G : Addr) (d : Int) (rs : List RuleL) (dd : Deed) (S : BoxS) (ls gs : List Int) (H : Hp) : Prop where
  b : LB5 (L :: as) H bx S
  p : PlanAt K H pl d rs
  act : SqT K H t dd.vs
  hL : H L = some (.lst (ls.map V.int))
  hG : H G = some (.lst (gs.map V.int))
  ga : G ∉ as
  gb : G ≠ bx
  gl : G ≠ L
  lb : L ≠ bx
  has : ∀ x ∈ L :: as, H x ≠ none
theorem St5.same {K : PySem.W.Frag} {as : List Addr} {bx pl t L G : Addr} {d : Int} {rs : List RuleL} {dd : Deed} {S : BoxS} {ls gs : List Int} {H H' : Hp} (h : St5 K as bx pl t L G d rs dd S ls gs H) (y : Same H H') : St5 K as bx pl t L G d rs dd S ls gs H' :=
  ⟨h.b.same y, h.p.same y, same_tup y h.act, y _ _ h.hL, y _ _ h.hG, h.ga, h.gb, h.gl, h.lb, fun x hx e => h.has x hx (y.free e)⟩
/-- behind a call that changes the box and the letters -/
theorem St5.call {K : PySem.W.Frag} {as : List Addr} {bx pl t L G : Addr} {d : Int} {rs : List RuleL} {dd : Deed} {S S2 : BoxS} {ls ls2 gs : List Int} {H H' : Hp} (h : St5 K as bx pl t L G d rs dd S ls gs H) (b : But [bx, L] H H') (hb : LB5 (L :: as) H' bx S2) (hL : H' L = some (.lst (ls2.map V.int))) : St5 K as bx pl t L G d rs dd S2 ls2 gs H' := by
  obtain ⟨_, _, _, hbx, _⟩ := h.b
  obtain ⟨u, qs, h1, h2, h3⟩ := h.p
  refine ⟨hb, ⟨u, qs, tupB b hbx h.hL h1, tupB b hbx h.hL h2, paired_map (fun _ _ _ x => tupB b hbx h.hL x) h3⟩, tupB b hbx h.hL h.act, hL, b _ _ (by simp [h.gb, h.gl]) h.hG, h.ga, h.gb, h.gl, h.lb, fun x hx e => ?_⟩
  rcases List.mem_cons.mp hx with z | z
  · rw [z, hL] at e; cases e
  · by_cases xb : x = bx
    · obtain ⟨_, _, _, hbx', _⟩ := hb
      rw [xb, hbx'] at e
      cases e
    · by_cases xl : x = L
      · rw [xl, hL] at e; cases e
      · cases hh : H x with
        | none => exact h.has x hx hh
        | some o => rw [b _ _ (by simp [xb, xl]) hh] at e; cases e
/-- the taken ones are told in another list -/
theorem St5.reG {K : PySem.W.Frag} {as : List Addr} {bx pl t L G G2 : Addr} {d : Int} {rs : List RuleL} {dd : Deed} {S : BoxS} {ls gs gs2 : List Int} {H : Hp} (h : St5 K as bx pl t L G d rs dd S ls gs H) (e : H G2 = some (.lst (gs2.map V.int))) (a : G2 ∉ L :: as) (b : G2 ≠ bx) : St5 K as bx pl t L G2 d rs dd S ls gs2 H :=
  ⟨h.b, h.p, h.act, h.hL, e, fun z => a (List.mem_cons_of_mem _ z), b, fun z => a (by rw [z]; exact List.mem_cons_self ..), h.lb, h.has⟩
/-- behind a change of the box itself -/
theorem St5.put {K : PySem.W.Frag} {as : List Addr} {bx pl t L G : Addr} {d : Int} {rs : List RuleL} {dd : Deed} {S S2 : BoxS} {ls gs : List Int} {H : Hp} {o : HO} (h : St5 K as bx pl t L G d rs dd S ls gs H) (hb : LB5 (L :: as) (upd H bx o) bx S2) : St5 K as bx pl t L G d rs dd S2 ls gs (upd H bx o) :=
  h.call ((But.refl _ _).put (.inr (by simp))) hb ((upd_ne h.lb).trans h.hL)
theorem lb5_put {as : List Addr} {H : Hp} {bx l1 l3 : Addr} {S2 : BoxS} {ys : List Int} (h1 : H l1 = some (.lst (S2.inside.map V.int))) (h3 : H l3 = some (.lst (ys.map V.int))) (hp : ys.Perm S2.valid) (ho : ys.Pairwise (· ≤ ·)) (n1 : l1 ≠ bx) (n3 : l3 ≠ bx) (nd : S2.valid.Nodup) (u1 : l1 ∉ as) (u3 : l3 ∉ as) :
    LB5 as (upd H bx (.lst [.bl S2.ajar, .ref l1, .str S2.tf, .ref l3, oV S2.age, oV S2.last])) bx S2 := ⟨l1, l3, ys, upd_same, (upd_ne n1).trans h1, (upd_ne n3).trans h3, hp, ho, n1, n3, nd, u1, u3⟩
section
variable {P : Program} {w : World} {K : PySem.W.Frag} {mg : Str → Option Value} {base : Heap}
def sp_law_report (K : PySem.W.Frag) : Sp := fun vs H Q _ => ∃ (bx pl t : Addr) (d num : Int) (rs : List RuleL) (S : BoxS) (as : List Addr) (n : Nat) (dd : Deed), vs = [.ref bx, .ref pl, .ref t, .int num] ∧ PlanAt K H pl d rs ∧ GoodB rs ∧
  LB5 as H bx S ∧ (∀ x ∈ as, H x ≠ none) ∧ bx ∉ as ∧ SqT K H t dd.vs ∧ Bd n (S, T0) ∧ n ≤ 90000 ∧ (∀ a, S.age = some a → 0 ≤ a ∧ a ≤ 1000000) ∧
  ∀ (H' : Hp) (r : Addr), But [bx] H H' → LB5 as H' bx (doF rs d num dd S).1 → Rep5 as H' r (doF rs d num dd S).2 → H r = none → Q (.ref r) H'
theorem carry_do {σ : L2.St} {D : Ends} {as : List Addr} {bx pl t L G : Addr} {d : Int} {rs : List RuleL} {dd : Deed} {S : BoxS} {ls gs : List Int} {H : Hp} {n : Nat} (i0 : Nat) (wd : Str) (g0 : σ[0]? = some (some (V.ref bx))) (g1 : σ[1]? = some (some (V.ref pl))) (g4 : σ[4]? = some (some (V.ref L)))
    (c : St5 K as bx pl t L G d rs dd S ls gs H) (hg : GoodB rs) (bd : Bd n (S, T0)) (hn : n ≤ 100000) (hl : ls.length ≤ 100000) (hm : moms[i0]? = some wd)
    (q : ∀ H', But [bx, L] H H' → St5 K as bx pl t L G d rs dd ((at_ rs i0).foldl act (S, T0)).1 (ls ++ ((at_ rs i0).foldl act (S, T0)).2.letters) gs H' → D.nx σ H') :
    tDrop (tCall (sp_law_carry K) [] C8.E0 (tCons (tVar 0) (tCons (tVar 1) (tCons (tC (V.str wd)) (tCons (tVar 4) tNil))))) D σ H :=
  ⟨_, g0, _, g1, _, g4, bx, pl, L, wd, i0, d, rs, S, ls, L :: as, n, rfl, c.p, hg, hm, c.b, List.mem_cons_self .., c.lb, c.hL, c.has, bd, hn, hl, fun H' b hb hL => q H' b (c.call b hb hL)⟩
theorem shut_do {σ : L2.St} {D : Ends} {as : List Addr} {bx pl t L G : Addr} {d : Int} {rs : List RuleL} {dd : Deed} {S : BoxS} {ls gs : List Int} {H : Hp} {n : Nat} {sh : Bool} (jx i1 i2 : Nat) (m1 m2 : Str) (g0 : σ[0]? = some (some (V.ref bx))) (g1 : σ[1]? = some (some (V.ref pl))) (g2 : σ[2]? = some (some (V.ref t))) (g4 : σ[4]? = some (some (V.ref L)))
    (c : St5 K as bx pl t L G d rs dd S ls gs H) (hg : GoodB rs) (bd : Bd n (S, T0)) (hn : n ≤ 100000) (hl : ls.length ≤ 100000) (hm1 : moms[i1]? = some m1) (hm2 : moms[i2]? = some m2) (hj : dd.vs[jx]? = some (.bl sh))
    (q : ∀ H', But [bx, L] H H' → St5 K as bx pl t L G d rs dd (leaveF rs sh i1 i2 S).1 (ls ++ (leaveF rs sh i1 i2 S).2.letters) gs H' → D.nx σ H') :
    tDrop (tCall (sp_law_shut K) [] C8.E0 (tCons (tVar 0) (tCons (tVar 1) (tCons (tOp (rIxT K) (tVar 2) (tC (V.int (jx : Int)))) (tCons (tLst (tCons (tC (V.str m1)) (tCons (tC (V.str m2)) tNil))) (tCons (tVar 4) tNil)))))) D σ H := by
  refine ⟨_, g0, _, g1, _, g2, t, _, (jx : Int), _, rfl, rfl, c.act, atI_nat hj, by show 2 ≤ sizeLine; decide, fun W hW => ?_⟩
  have y := same_new (o := .lst [.str m1, .str m2]) hW
  have c2 := c.same y
  exact ⟨_, g4, bx, pl, L, W, m1, m2, i1, i2, sh, d, rs, S, ls, L :: as, n, rfl, c2.p, hg, hm1, hm2, upd_same, c2.b, List.mem_cons_self .., c2.lb, c2.hL, c2.has, bd, hn, hl, fun H' b hb hL => q H' ((But.of y).trans b) (c2.call b hb hL)⟩
set_option maxHeartbeats 2000000 in
theorem ok_law_report (T : Txt w K mg) {fd : FuncData} (F : FunD K d_law_report.name d_law_report.qual d_law_report.params d_law_report.body d_law_report.scope (d_law_report.dvs K) (d_law_report.kws K) (He.fAd K d_law_report.at_) fd) : FnOk P w K mg base C8.CX0 4 (He.fAd K d_law_report.at_) fd ["state", "plan", "act", "number"] (sp_law_report K) := by
  have c_law_carry := c_law_carry (P := P) (w := w) (base := base) T
  have c_law_shut := c_law_shut (P := P) (w := w) (base := base) T
  refine F.ok sc_law_report (fun vs H Q E h => ?_) (fun cdv A outer s H vs Q E hr h => ?_)
  · obtain ⟨bx, pl, t, d, num, rs, S, as, n, dd, rfl, _⟩ := h
    rfl
  · have hu := L2.hu_of hr
    obtain ⟨bx, pl, t, d, num, rs, S, as, n, dd, rfl, hp, hg, hb, has, nbx, ht, bd, hn, hag, q⟩ := h
    refine ⟨_, (PSs.nox ((pss_cons (ps_par3 (i := 4) (j := 5) (l := 6) (by rfl) sc_law_report.nd rfl rfl rfl (by decide) (by decide) (by decide) rfl rfl rfl (pa_cons (pe_lst pa_nil) (pa_cons (pe_lst pa_nil) (pa_cons (pe_ix (My.ix_tupK (K := K) rfl) (pv 2) pe_int (fun _ _ => rfl)) pa_nil))) (by rfl))
  (pss_cons (ps_set (i := 7) sc_law_report.nd rfl (by first | exact Or.inl rfl | exact Or.inr rfl) (pe_or (pe_and (pe_cmpR op_eq (pv 6) pe_str (nomark _)) (pe_one (pe_cmpR op_eq (pe_ix (My.ix_listK (K := K) rfl) (pv 0) pe_int (fun _ _ => rfl)) pe_str (nomark _)))) (pe_one (pe_and (pe_cmpR op_eq (pv 6) pe_str (nomark _)) (pe_one (pe_cmpR (My.in_seqK (K := K) rfl) (pe_ix (My.ix_tupK (K := K) rfl) (pv 2) pe_int (fun _ _ => rfl)) (pe_ix (My.ix_listK (K := K) rfl) (pv 0) pe_int (fun _ _ => rfl)) (by rfl)))))))
  (pss_cons (ps_if (PW.pt (pw_and (pt_cmpR op_eq (pv 6) pe_str (nomark _)) (pw_and1 (pt_val (pv 7)))))
  (pss_cons (ps_asg (pe_tup (pa_cons pe_bl (pa_cons pe_int (pa_cons (pv 3) pa_nil)))) (My.pg_tupK (K := K) (n := 3) rfl rfl (pgs_cons (pg_sub (pv 0) pe_int set_list) (pgs_cons (pg_sub (pv 0) pe_int set_list) (pgs_cons (pg_sub (pv 0) pe_int set_list) pgs_nil)))))
  (pss_cons (ps_expr (C8.pe_c c_law_carry hr (by decide) rfl (pa_cons (pv 0) (pa_cons (pv 1) (pa_cons pe_str (pa_cons (pv 4) pa_nil))))))
  (pss_cons (ps_if (PW.pt (pw_and (pt_val (pe_ix (My.ix_tupK (K := K) rfl) (pv 2) pe_int (fun _ _ => rfl))) (pw_and1 (pt_val (pe_ix (My.ix_listK (K := K) rfl) (pv 0) pe_int (fun _ _ => rfl))))))
  (pss_one (ps_asg (pe_op op_cat (pe_ix (My.ix_listK (K := K) rfl) (pv 0) pe_int (fun _ _ => rfl)) (pe_lst (pa_cons (pv 3) pa_nil))) (pg_sub (pv 0) pe_int set_list)))
  pss_nil)
  (pss_one (ps_expr (C8.pe_c c_law_shut hr (by decide) rfl (pa_cons (pv 0) (pa_cons (pv 1) (pa_cons (pe_ix (My.ix_tupK (K := K) rfl) (pv 2) pe_int (fun _ _ => rfl)) (pa_cons (pe_lst (pa_cons pe_str (pa_cons pe_str pa_nil))) (pa_cons (pv 4) pa_nil)))))))))))
  pss_nil)
  (pss_cons (ps_if (PW.pt (pw_and (pt_cmpR op_eq (pv 6) pe_str (nomark _)) (pw_and1 (pt_val (pv 7)))))
  (pss_cons (ps_asg pe_bl (pg_sub (pv 0) pe_int set_list))
  (pss_cons (ps_expr (C8.pe_c c_law_carry hr (by decide) rfl (pa_cons (pv 0) (pa_cons (pv 1) (pa_cons pe_str (pa_cons (pv 4) pa_nil))))))
  (pss_cons (ps_if (PW.pt (pw_and (pt_val (pe_ix (My.ix_tupK (K := K) rfl) (pv 2) pe_int (fun _ _ => rfl))) (pw_and1 (pt_val (pe_ix (My.ix_listK (K := K) rfl) (pv 0) pe_int (fun _ _ => rfl))))))
  (pss_one (ps_asg (pe_tup (pa_cons (pe_ix (My.ix_listK (K := K) rfl) (pv 0) pe_int (fun _ _ => rfl)) (pa_cons (pe_lst pa_nil) pa_nil))) (My.pg_tupK (K := K) (n := 2) rfl rfl (pgs_cons (pg_name (i := 5) sc_law_report.nd rfl (by first | exact Or.inl rfl | exact Or.inr rfl)) (pgs_cons (pg_sub (pv 0) pe_int set_list) pgs_nil)))))
  pss_nil)
  (pss_one (ps_expr (C8.pe_c c_law_shut hr (by decide) rfl (pa_cons (pv 0) (pa_cons (pv 1) (pa_cons (pe_ix (My.ix_tupK (K := K) rfl) (pv 2) pe_int (fun _ _ => rfl)) (pa_cons (pe_lst (pa_cons pe_str (pa_cons pe_str pa_nil))) (pa_cons (pv 4) pa_nil)))))))))))
  pss_nil)
  (pss_cons (ps_if (PW.pt (pw_and (pt_cmpR op_eq (pv 6) pe_str (nomark _)) (pw_and1 (pt_val (pe_ix (My.ix_listK (K := K) rfl) (pv 0) pe_int (fun _ _ => rfl))))))
  (pss_one (ps_asg (pe_tup (pa_cons (pe_ix (My.ix_listK (K := K) rfl) (pv 0) pe_int (fun _ _ => rfl)) (pa_cons (pe_lst pa_nil) pa_nil))) (My.pg_tupK (K := K) (n := 2) rfl rfl (pgs_cons (pg_name (i := 5) sc_law_report.nd rfl (by first | exact Or.inl rfl | exact Or.inr rfl)) (pgs_cons (pg_sub (pv 0) pe_int set_list) pgs_nil)))))
  pss_nil)
  (pss_cons (ps_if (PW.pt (pw_and (pt_cmpR op_eq (pv 6) pe_str (nomark _)) (pw_and1 (pt_cmpR op_notN (pe_ix (My.ix_listK (K := K) rfl) (pv 0) pe_int (fun _ _ => rfl)) pe_non (nomark _)))))
  (pss_cons (ps_asg (pe_op op_add (pe_ix (My.ix_listK (K := K) rfl) (pv 0) pe_int (fun _ _ => rfl)) pe_int) (pg_sub (pv 0) pe_int set_list))
  (pss_one (ps_if (pt_cmpR op_eq (pe_ix (My.ix_listK (K := K) rfl) (pv 0) pe_int (fun _ _ => rfl)) (pe_ix (My.ix_tupK (K := K) rfl) (pv 1) pe_int (fun _ _ => rfl)) (nomark _))
  (pss_one (ps_expr (C8.pe_c c_law_carry hr (by decide) rfl (pa_cons (pv 0) (pa_cons (pv 1) (pa_cons pe_str (pa_cons (pv 4) pa_nil)))))))
  pss_nil)))
  pss_nil)
  (pss_cons (ps_if (pt_cmpR op_eq (pv 6) pe_str (nomark _))
  (pss_one (ps_expr (C8.pe_c c_law_carry hr (by decide) rfl (pa_cons (pv 0) (pa_cons (pv 1) (pa_cons pe_str (pa_cons (pv 4) pa_nil)))))))
  pss_nil)
  (pss_one (ps_ret (pe_tup (pa_cons (pv 4) (pa_cons (pv 7) (pa_cons (pv 5) pa_nil))))))))))))))), ?_⟩
    refine ⟨Nat.zero_le _, fun L hL => ⟨Nat.zero_le _, fun G hG => ⟨_, rfl, t, _, ((0 : Nat) : Int), _, rfl, rfl, same_tup ((same_new hL).trans (same_new hG)) ht, atI_nat (word_at dd), _, _, _, rfl, ?_⟩⟩⟩
    have yL := same_new (o := .lst []) hL
    have yG := same_new (o := .lst []) hG
    have y0 := yL.trans yG
    have nLas : L ∉ as := fun z => has L z hL
    have hbxn : ∀ x, H x = none → x ≠ bx := fun x e z => by
      obtain ⟨_, _, _, e9, _⟩ := hb
      rw [z, e9] at e
      cases e
    have hLn : upd (upd H L (.lst [])) G (.lst []) L = some (.lst (([] : List Int).map V.int)) := yG _ _ upd_same
    have hGnone : H G = none := yL.free hG
    have gl : G ≠ L := fun z => by rw [z, upd_same] at hG; cases hG
    have c0 : St5 K as bx pl t L G d rs dd S [] [] (upd (upd H L (.lst [])) G (.lst [])) := ⟨(hb.new hL).same y0, hp.same y0, same_tup y0 ht, hLn, upd_same, fun z => has G z hGnone, hbxn G hGnone, gl, hbxn L hL, fun x hx e => by
      rcases List.mem_cons.mp hx with z | z
      · rw [z, hLn] at e; cases e
      · exact has x z (y0.free e)⟩
    have b0 : But [bx, L] H (upd (upd H L (.lst [])) G (.lst [])) := But.of y0
    show Ends.nx _ [some (.ref bx), some (.ref pl), some (.ref t), some (.int num), some (.ref L), some (.ref G), some (.str (wordD dd)), none] (upd (upd H L (.lst [])) G (.lst []))
    generalize upd (upd H L (.lst [])) G (.lst []) = H0 at c0 b0 hLn
    clear yL yG y0
    have fin : ∀ (H2 : Hp) (G : Addr) (ls gs : List Int) (S2 : BoxS) (op : Bool), But [bx, L] H H2 → St5 K as bx pl t L G d rs dd S2 ls gs H2 → S2 = (doF rs d num dd S).1 → (doF rs d num dd S).2.letters = ls → (doF rs d num dd S).2.got = gs → (doF rs d num dd S).2.opened = op →
        (tRet (tTup (tCons (tVar 4) (tCons (tVar 7) (tCons (tVar 5) tNil))))) { nx := fun x H' => Q V.non H', rt := Q } [some (.ref bx), some (.ref pl), some (.ref t), some (.int num), some (.ref L), some (.ref G), some (.str (wordD dd)), some (.bl op)] H2 := by
      intro H2 G2 ls gs S2 op b2 c2 e0 e1 e2 e3
      refine ⟨_, rfl, _, rfl, _, rfl, by show 3 ≤ sizeLine; decide, fun r hr => ?_⟩
      have z2 := same_new (o := .tup [.ref L, .bl op, .ref G2]) hr
      have bb : But [bx] H H2 := fun c o nc e => b2 c o (by
        simp only [List.mem_cons, List.not_mem_nil, or_false, not_or] at nc ⊢
        exact ⟨nc, fun z => by rw [z, hL] at e; cases e⟩) e
      have nr : r ∉ [bx] := fun z => by
        obtain ⟨_, _, _, e9, _⟩ := c2.b
        rw [List.mem_singleton.mp z, e9] at hr
        cases hr
      refine q _ r (bb.trans (But.of z2)) (by rw [← e0]; exact c2.b.less.same z2) ⟨L, G2, ?_, ?_, ?_, nLas, c2.ga⟩ (bb.none nr hr)
      · rw [upd_same, e3]
      · rw [e1]; exact z2 _ _ c2.hL
      · rw [e2]; exact z2 _ _ c2.hG
    have mm : ∀ {i : Nat} {x : Str}, moms[i]? = some x → moms[i]? = some x := id
    cases dd with
    | bring l sh =>
      obtain ⟨l1, l3, ys, hbx, hl1, hl3, hpm, ho, n1, n3, nd, u1, u3⟩ := id c0.b
      refine ⟨_, rfl, rfl, _, rfl, ?_⟩
      rw [str_eqT (show wordD (.bring l sh) = "bring" from rfl)]
      refine ⟨_, rfl, bx, _, 2, _, rfl, rfl, SqL.of hbx, rfl, rfl, _, rfl, ?_⟩
      by_cases hf : S.tf = "free"
      · rw [str_eqT hf]
        refine wq_yes rfl rfl ⟨_, rfl, _, rfl, ?_⟩
        refine ⟨_, rfl, by show 3 ≤ sizeLine; decide, fun tu htu => ?_⟩
        have v1 := same_new (o := .tup [.bl true, .int 0, .int num]) htu
        have c1 := c0.same v1
        refine ⟨_, _, rfl, SqT.of upd_same, rfl, _, _, rfl, _, rfl, bx, _, 0, 0, rfl, rfl, v1 _ _ hbx, rfl, _, _, rfl, _, rfl, bx, _, 4, 4, rfl, rfl, upd_same, rfl, _, _, rfl, _, rfl, bx, _, 5, 5, rfl, rfl, upd_same, rfl, rfl, ?_⟩
        have hb2 : LB5 (L :: as) (upd (upd (upd (upd H0 tu (.tup [.bl true, .int 0, .int num])) bx (.lst [.bl true, .ref l1, .str S.tf, .ref l3, oV S.age, oV S.last])) bx (.lst [.bl true, .ref l1, .str S.tf, .ref l3, .int 0, oV S.last])) bx (.lst [.bl true, .ref l1, .str S.tf, .ref l3, .int 0, .int num])) bx { S with ajar := true, age := some 0, last := some num } :=
          ⟨l1, l3, ys, upd_same, (upd_ne n1).trans ((upd_ne n1).trans ((upd_ne n1).trans (v1 _ _ hl1))), (upd_ne n3).trans ((upd_ne n3).trans ((upd_ne n3).trans (v1 _ _ hl3))), hpm, ho, n1, n3, nd, u1, u3⟩
        have bq := (((But.refl [bx, L] (upd H0 tu (.tup [.bl true, .int 0, .int num]))).put (a := bx) (o := .lst [.bl true, .ref l1, .str S.tf, .ref l3, oV S.age, oV S.last]) (.inr (by simp))).put (a := bx) (o := .lst [.bl true, .ref l1, .str S.tf, .ref l3, .int 0, oV S.last]) (.inr (by simp))).put (a := bx) (o := .lst [.bl true, .ref l1, .str S.tf, .ref l3, .int 0, .int num]) (.inr (by simp))
        have c2 := c1.call bq hb2 ((upd_ne c1.lb).trans ((upd_ne c1.lb).trans ((upd_ne c1.lb).trans c1.hL)))
        have b2 := (b0.trans (But.of v1)).trans bq
        show Ends.nx _ [some (.ref bx), some (.ref pl), some (.ref t), some (.int num), some (.ref L), some (.ref G), some (.str (wordD (.bring l sh))), some (.bl true)] (upd (upd (upd (upd H0 tu (.tup [.bl true, .int 0, .int num])) bx (.lst [.bl true, .ref l1, .str S.tf, .ref l3, oV S.age, oV S.last])) bx (.lst [.bl true, .ref l1, .str S.tf, .ref l3, .int 0, oV S.last])) bx (.lst [.bl true, .ref l1, .str S.tf, .ref l3, .int 0, .int num]))
        generalize upd (upd (upd (upd H0 tu (.tup [.bl true, .int 0, .int num])) bx (.lst [.bl true, .ref l1, .str S.tf, .ref l3, oV S.age, oV S.last])) bx (.lst [.bl true, .ref l1, .str S.tf, .ref l3, .int 0, oV S.last])) bx (.lst [.bl true, .ref l1, .str S.tf, .ref l3, .int 0, .int num]) = H2 at c2 b2
        clear hb2 bq c1 v1 hbx hl1 hl3
        have bd1 : Bd n (({ S with ajar := true, age := some 0, last := some num } : BoxS), T0) := ⟨bd.i, bd.v, bd.s, bd.r, bd.l, bd.w, bd.m⟩
        refine carry_do 0 "given" rfl rfl rfl c2 hg bd1 (by omega) (Nat.zero_le _) rfl fun H3 b3 c3 => ?_
        have bdX := bd1.foldl (at_ rs 0)
        have hsix := hg.six (show 0 < 8 by decide)
        have cn : ¬ (l = true ∧ ((at_ rs 0).foldl act (({ S with ajar := true, age := some 0, last := some num } : BoxS), T0)).1.ajar = true) → _ := bring_no (rb := rs) (sh := sh) (l := l) hf
        have ck := fun h => bring_lay (rb := rs) (sh := sh) (p := num) hf h
        generalize hX : (at_ rs 0).foldl act (({ S with ajar := true, age := some 0, last := some num } : BoxS), T0) = X at c3 bdX cn ck
        have bdX1 : Bd (n + 7) (X.1, T0) := ⟨Nat.le_trans bdX.i (by omega), Nat.le_trans bdX.v (by omega), Nat.le_trans bdX.s (by omega), Nat.le_trans bdX.r (by omega), Nat.zero_le _, Nat.zero_le _, Nat.zero_le _⟩
        have hlx : ([] ++ X.2.letters).length ≤ 100000 := by have := bdX.l; rw [List.nil_append]; omega
        have b03 := b2.trans b3
        obtain ⟨k1, k3, zs, hbx3, hk1, hk3, kpm, ko, kn1, kn3, knd, km1, km3⟩ := id c3.b
        refine ⟨_, rfl, t, _, ((1 : Nat) : Int), _, rfl, rfl, c3.act, atI_nat (show ([V.str "bring", .bl l, .bl sh] : List V)[1]? = some (.bl l) from rfl), _, rfl, ?_⟩
        cases htk : l with
        | false =>
          rw [htk] at cn
          obtain ⟨e1, e2, e3, e4⟩ := cn (fun z => Bool.false_ne_true z.1)
          rw [htk] at fin c3
          exact L2.iteF (shut_do 2 1 2 "laid" "left" rfl rfl rfl rfl c3 hg bdX1 (by omega) hlx rfl rfl rfl fun H5 b5 c5 => wq_no rfl nBC (wq_no rfl nBP (wq_no rfl nBD (wp_no rfl nBW (fin H5 G _ _ _ true (b03.trans b5) c5 e1.symm e2 e3 e4)))))
        | true =>
          refine ⟨_, rfl, bx, _, 0, _, rfl, rfl, SqL.of hbx3, rfl, _, rfl, ?_⟩
          rw [htk] at cn fin c3
          cases haj : X.1.ajar with
          | false =>
            obtain ⟨e1, e2, e3, e4⟩ := cn (fun z => by rw [haj] at z; cases z.2)
            exact L2.iteF (shut_do 2 1 2 "laid" "left" rfl rfl rfl rfl c3 hg bdX1 (by omega) hlx rfl rfl rfl fun H5 b5 c5 => wq_no rfl nBC (wq_no rfl nBP (wq_no rfl nBD (wp_no rfl nBW (fin H5 G _ _ _ true (b03.trans b5) c5 e1.symm e2 e3 e4)))))
          | true =>
            obtain ⟨e1, e2, e3, e4⟩ := ck haj
            have hil : X.1.inside.length ≤ n + 7 := bdX1.i
            refine ⟨_, rfl, bx, _, 1, _, rfl, rfl, SqL.of hbx3, rfl, _, rfl, by show 1 ≤ sizeLine; decide, fun e he => ?_⟩
            have v1 := same_new (o := .lst [.int num]) he
            refine ⟨k1, e, _, _, rfl, rfl, v1 _ _ hk1, upd_same, by rw [List.length_map]; exact Nat.le_trans (show X.1.inside.length + 1 ≤ 200000 by omega) (by decide), fun k4 hk4 => ?_⟩
            have v2 := same_new (o := .lst (X.1.inside.map V.int ++ [.int num])) hk4
            have vv := v1.trans v2
            have c4 := c3.same vv
            have neb : k4 ≠ bx := (ne_of_none (v1 _ _ hbx3) hk4).symm
            have nea : k4 ∉ L :: as := fun z => c3.has k4 z (v1.free hk4)
            have hb5 : LB5 (L :: as) (upd (upd (upd H3 e (.lst [.int num])) k4 (.lst (X.1.inside.map V.int ++ [.int num]))) bx (.lst [.bl X.1.ajar, .ref k4, .str X.1.tf, .ref k3, oV X.1.age, oV X.1.last])) bx { X.1 with inside := X.1.inside ++ [num] } :=
              ⟨k4, k3, zs, upd_same, (upd_ne neb).trans (by rw [upd_same, List.map_append]; rfl), (upd_ne kn3).trans (vv _ _ hk3), kpm, ko, neb, kn3, knd, nea, km3⟩
            have c5 := c4.put hb5
            have b5 := ((b03.trans (But.of vv)).put (a := bx) (o := .lst [.bl X.1.ajar, .ref k4, .str X.1.tf, .ref k3, oV X.1.age, oV X.1.last]) (.inr (by simp)))
            refine ⟨_, rfl, bx, _, 1, 1, rfl, rfl, vv _ _ hbx3, rfl, ?_⟩
            have bdY : Bd (n + 8) (({ X.1 with inside := X.1.inside ++ [num] } : BoxS), T0) := ⟨by show (X.1.inside ++ [num]).length ≤ n + 8; rw [List.length_append]; show _ + 1 ≤ _; omega, Nat.le_trans bdX1.v (by omega), Nat.le_trans bdX1.s (by omega), Nat.le_trans bdX1.r (by omega), Nat.zero_le _, Nat.zero_le _, Nat.zero_le _⟩
            exact shut_do 2 1 2 "laid" "left" rfl rfl rfl rfl c5 hg bdY (by omega) hlx rfl rfl rfl fun H6 b6 c6 => wq_no rfl nBC (wq_no rfl nBP (wq_no rfl nBD (wp_no rfl nBW (fin H6 G _ _ _ true (b5.trans b6) c6 e1.symm e2 e3 e4))))
      · rw [str_eqF hf]
        have e : doF rs d num (.bring l sh) S = (S, T0) := by
          show bringF rs num l sh S = _
          unfold bringF
          rw [if_neg hf]
        rw [e] at fin
        refine ⟨_, rfl, rfl, _, rfl, ?_⟩
        rw [str_eqF (show wordD (.bring l sh) ≠ "code" from nBC)]
        refine wq_yes rfl rfl ⟨_, rfl, _, rfl, ?_⟩
        exact L2.iteF (wq_no rfl nBC (wq_no rfl nBP (wq_no rfl nBD (wp_no rfl nBW (fin H0 G [] [] S false b0 c0 rfl rfl rfl rfl)))))
    | code p tk sh =>
      obtain ⟨l1, l3, ys, hbx, hl1, hl3, hpm, ho, n1, n3, nd, u1, u3⟩ := id c0.b
      refine ⟨_, rfl, rfl, _, rfl, ?_⟩
      rw [str_eqF (show wordD (.code p tk sh) ≠ "bring" from nCB)]
      refine ⟨_, rfl, ?_⟩
      refine ⟨_, rfl, rfl, _, rfl, ?_⟩
      rw [str_eqT (show wordD (.code p tk sh) = "code" from rfl)]
      refine ⟨_, rfl, t, _, ((1 : Nat) : Int), _, rfl, rfl, c0.act, atI_nat (show ([V.str "code", .int p, .bl tk, .bl sh] : List V)[1]? = some (.int p) from rfl), _, rfl, bx, _, 3, _, rfl, rfl, SqL.of hbx, rfl, l3, _, rfl, .inl (SqL.of hl3), rfl, all_flat_int _, ?_⟩
      have e0 : (if false = true then !(inV (.int p) (ys.map V.int)) else inV (.int p) (ys.map V.int)) = decide (p ∈ ys) := by rw [if_neg Bool.false_ne_true, inV_int]
      rw [e0]
      refine wq_no rfl nCB ?_
      refine wq_yes rfl rfl ⟨_, rfl, _, rfl, ?_⟩
      by_cases hv : p ∈ S.valid
      · have hvy : p ∈ ys := hpm.mem_iff.mpr hv
        rw [decide_eq_true hvy]
        refine ⟨_, rfl, bx, _, 0, 0, rfl, rfl, hbx, rfl, ?_⟩
        have c2 := c0.put (S2 := { S with ajar := true }) (o := .lst [.bl true, .ref l1, .str S.tf, .ref l3, oV S.age, oV S.last]) ⟨l1, l3, ys, upd_same, (upd_ne n1).trans hl1, (upd_ne n3).trans hl3, hpm, ho, n1, n3, nd, u1, u3⟩
        have b2 := b0.put (a := bx) (o := .lst [.bl true, .ref l1, .str S.tf, .ref l3, oV S.age, oV S.last]) (.inr (by simp))
        show Ends.nx _ [some (.ref bx), some (.ref pl), some (.ref t), some (.int num), some (.ref L), some (.ref G), some (.str (wordD (.code p tk sh))), some (.bl true)] (upd H0 bx (.lst [.bl true, .ref l1, .str S.tf, .ref l3, oV S.age, oV S.last]))
        generalize upd H0 bx (.lst [.bl true, .ref l1, .str S.tf, .ref l3, oV S.age, oV S.last]) = H2 at c2 b2
        clear hbx hl1 hl3
        have bd1 : Bd n (({ S with ajar := true } : BoxS), T0) := ⟨bd.i, bd.v, bd.s, bd.r, bd.l, bd.w, bd.m⟩
        refine carry_do 3 "opened" rfl rfl rfl c2 hg bd1 (by omega) (Nat.zero_le _) rfl fun H3 b3 c3 => ?_
        have bdX := bd1.foldl (at_ rs 3)
        have hsix := hg.six (show 3 < 8 by decide)
        have cn : ¬ (tk = true ∧ ((at_ rs 3).foldl act (({ S with ajar := true } : BoxS), T0)).1.ajar = true) → _ := code_no (rb := rs) (sh := sh) (tk := tk) hv
        have ck := fun h => code_tk (rb := rs) (sh := sh) hv h
        generalize hX : (at_ rs 3).foldl act (({ S with ajar := true } : BoxS), T0) = X at c3 bdX cn ck
        have bdX1 : Bd (n + 7) (X.1, T0) := ⟨Nat.le_trans bdX.i (by omega), Nat.le_trans bdX.v (by omega), Nat.le_trans bdX.s (by omega), Nat.le_trans bdX.r (by omega), Nat.zero_le _, Nat.zero_le _, Nat.zero_le _⟩
        have hlx : ([] ++ X.2.letters).length ≤ 100000 := by have := bdX.l; rw [List.nil_append]; omega
        have b03 := b2.trans b3
        obtain ⟨k1, k3, zs, hbx3, hk1, hk3, kpm, ko, kn1, kn3, knd, km1, km3⟩ := id c3.b
        refine ⟨_, rfl, t, _, ((2 : Nat) : Int), _, rfl, rfl, c3.act, atI_nat (show ([V.str "code", .int p, .bl tk, .bl sh] : List V)[2]? = some (.bl tk) from rfl), _, rfl, ?_⟩
        cases htk : tk with
        | false =>
          rw [htk] at cn
          obtain ⟨e1, e2, e3, e4⟩ := cn (fun z => Bool.false_ne_true z.1)
          rw [htk] at fin c3
          exact L2.iteF (shut_do 3 4 5 "taken" "gone" rfl rfl rfl rfl c3 hg bdX1 (by omega) hlx rfl rfl rfl fun H5 b5 c5 => wq_no rfl nCP (wq_no rfl nCD (wp_no rfl nCW (fin H5 G _ _ _ true (b03.trans b5) c5 e1.symm e2 e3 e4))))
        | true =>
          refine ⟨_, rfl, bx, _, 0, _, rfl, rfl, SqL.of hbx3, rfl, _, rfl, ?_⟩
          rw [htk] at cn fin c3
          cases haj : X.1.ajar with
          | false =>
            obtain ⟨e1, e2, e3, e4⟩ := cn (fun z => by rw [haj] at z; cases z.2)
            exact L2.iteF (shut_do 3 4 5 "taken" "gone" rfl rfl rfl rfl c3 hg bdX1 (by omega) hlx rfl rfl rfl fun H5 b5 c5 => wq_no rfl nCP (wq_no rfl nCD (wp_no rfl nCW (fin H5 G _ _ _ true (b03.trans b5) c5 e1.symm e2 e3 e4))))
          | true =>
            obtain ⟨sv, e1, e2, e3, e4, e5⟩ := ck haj
            refine ⟨_, rfl, bx, _, 1, _, rfl, rfl, SqL.of hbx3, rfl, Nat.zero_le _, fun e he => ⟨by show 2 ≤ sizeLine; decide, fun tt htt => ?_⟩⟩
            have v1 := same_new (o := .lst []) he
            have v2 := same_new (o := .tup [.ref k1, .ref e]) htt
            have vv := v1.trans v2
            have neb : e ≠ bx := (ne_of_none hbx3 he).symm
            have nea : e ∉ L :: as := fun z => c3.has e z he
            have hbx4 := vv _ _ hbx3
            refine ⟨_, _, rfl, SqT.of upd_same, rfl, _, _, rfl, _, _, rfl, _, rfl, bx, _, 1, 1, rfl, rfl, hbx4, rfl, rfl, ?_⟩
            have he4 : upd (upd H3 e (.lst [])) tt (.tup [.ref k1, .ref e]) e = some (.lst (([] : List Int).map V.int)) := v2 _ _ upd_same
            have c4 := (c3.same vv).reG (vv _ _ hk1) km1 kn1
            have c5 := c4.put (S2 := { X.1 with inside := [], served := sv }) (o := .lst [.bl X.1.ajar, .ref e, .str X.1.tf, .ref k3, oV X.1.age, oV X.1.last]) ⟨e, k3, zs, upd_same, (upd_ne neb).trans he4, (upd_ne kn3).trans (vv _ _ hk3), kpm, ko, neb, kn3, knd, nea, km3⟩
            have b5 := ((b03.trans (But.of vv)).put (a := bx) (o := .lst [.bl X.1.ajar, .ref e, .str X.1.tf, .ref k3, oV X.1.age, oV X.1.last]) (.inr (by simp)))
            have bdY : Bd (n + 8) (({ X.1 with inside := [], served := sv } : BoxS), T0) := ⟨Nat.zero_le _, Nat.le_trans bdX1.v (by omega), Nat.le_trans bdX1.s (by omega), Nat.le_trans e5 (by have := bdX1.r; show X.1.served.length + 1 ≤ n + 8; have h : X.1.served.length ≤ n + 7 := bdX1.r; omega), Nat.zero_le _, Nat.zero_le _, Nat.zero_le _⟩
            exact shut_do 3 4 5 "taken" "gone" rfl rfl rfl rfl c5 hg bdY (by omega) hlx rfl rfl rfl fun H6 b6 c6 => wq_no rfl nCP (wq_no rfl nCD (wp_no rfl nCW (fin H6 k1 _ _ _ true (b5.trans b6) c6 e1.symm e2 e3 e4)))
      · have hvy : p ∉ ys := fun z => hv (hpm.mem_iff.mp z)
        rw [decide_eq_false hvy]
        have e : doF rs d num (.code p tk sh) S = addW (decide (p ∈ S.inside) && decide (p ∈ S.sent)) "refused" (S, T0) := by
          show codeF rs p tk sh S = _
          unfold codeF
          rw [if_neg hv]
        obtain ⟨g1, g2, g3, g4⟩ := addW_T (decide (p ∈ S.inside) && decide (p ∈ S.sent)) "refused" (S, T0)
        rw [e] at fin
        exact L2.iteF (wq_no rfl nCP (wq_no rfl nCD (wp_no rfl nCW (fin H0 G [] [] S false b0 c0 g1.symm g2 g3 g4))))
    | pass =>
      obtain ⟨l1, l3, ys, hbx, hl1, hl3, hpm, ho, n1, n3, nd, u1, u3⟩ := id c0.b
      refine ⟨_, rfl, rfl, _, rfl, ?_⟩
      rw [str_eqF (show wordD .pass ≠ "bring" from nPB)]
      refine ⟨_, rfl, ?_⟩
      refine ⟨_, rfl, rfl, _, rfl, ?_⟩
      rw [str_eqF (show wordD .pass ≠ "code" from nPC)]
      refine wq_no rfl nPB (wq_no rfl nPC (wq_yes rfl rfl ?_))
      refine ⟨_, rfl, bx, _, 0, _, rfl, rfl, SqL.of hbx, rfl, _, rfl, ?_⟩
      cases haj : S.ajar with
      | false =>
        have e : doF rs d num .pass S = (S, T0) := by
          show passBy S = _
          unfold passBy
          rw [haj]
          rfl
        rw [e] at fin
        exact L2.iteF (wq_no rfl nPD (wp_no rfl nPW (fin H0 G [] [] S false b0 c0 rfl rfl rfl rfl)))
      | true =>
        have e : doF rs d num .pass S = ({ S with inside := [] }, ⟨[], false, S.inside, if S.inside.any (fun p => decide (some p ≠ none)) = true then [("wrong" : Str)] else [], []⟩) := by
          show passBy S = _
          unfold passBy
          rw [if_pos haj]
          rfl
        rw [e] at fin
        refine ⟨_, rfl, bx, _, 1, _, rfl, rfl, SqL.of hbx, rfl, Nat.zero_le _, fun e he => ⟨by show 2 ≤ sizeLine; decide, fun tt htt => ?_⟩⟩
        have v1 := same_new (o := .lst []) he
        have v2 := same_new (o := .tup [.ref l1, .ref e]) htt
        have vv := v1.trans v2
        have neb : e ≠ bx := (ne_of_none hbx he).symm
        have nea : e ∉ L :: as := fun z => c0.has e z he
        have hbx4 := vv _ _ hbx
        refine ⟨_, _, rfl, SqT.of upd_same, rfl, _, _, rfl, _, _, rfl, _, rfl, bx, _, 1, 1, rfl, rfl, hbx4, rfl, rfl, ?_⟩
        have he4 : upd (upd H0 e (.lst [])) tt (.tup [.ref l1, .ref e]) e = some (.lst (([] : List Int).map V.int)) := v2 _ _ upd_same
        have c4 := (c0.same vv).reG (vv _ _ hl1) u1 n1
        have c5 := c4.put (S2 := { S with inside := [] }) (o := .lst [.bl S.ajar, .ref e, .str S.tf, .ref l3, oV S.age, oV S.last]) ⟨e, l3, ys, upd_same, (upd_ne neb).trans he4, (upd_ne n3).trans (vv _ _ hl3), hpm, ho, neb, n3, nd, nea, u3⟩
        have b5 := ((b0.trans (But.of vv)).put (a := bx) (o := .lst [.bl S.ajar, .ref e, .str S.tf, .ref l3, oV S.age, oV S.last]) (.inr (by simp)))
        exact wq_no rfl nPD (wp_no rfl nPW (fin _ l1 [] S.inside _ false b5 c5 rfl rfl rfl rfl))
    | day =>
      obtain ⟨l1, l3, ys, hbx, hl1, hl3, hpm, ho, n1, n3, nd, u1, u3⟩ := id c0.b
      refine ⟨_, rfl, rfl, _, rfl, ?_⟩
      rw [str_eqF (show wordD .day ≠ "bring" from nDB)]
      refine ⟨_, rfl, ?_⟩
      refine ⟨_, rfl, rfl, _, rfl, ?_⟩
      rw [str_eqF (show wordD .day ≠ "code" from nDC)]
      refine wq_no rfl nDB (wq_no rfl nDC (wq_no rfl nDP (wq_yes rfl rfl ?_)))
      refine ⟨_, rfl, bx, _, 4, _, rfl, rfl, SqL.of hbx, rfl, rfl, _, rfl, ?_⟩
      cases hage : S.age with
      | none =>
        have e : doF rs d num .day S = (S, T0) := by
          show dayF d rs S = _
          unfold dayF
          rw [hage]
        rw [e] at fin
        exact L2.iteF (wp_no rfl nDW (fin H0 G [] [] S false b0 c0 rfl rfl rfl rfl))
      | some a =>
        have e : doF rs d num .day S = (if a + 1 = d then carry (at_ rs 6) "late" ({ S with age := some (a + 1) }, T0) else ({ S with age := some (a + 1) }, T0)) := by
          show dayF d rs S = _
          unfold dayF
          rw [hage]
        rw [hage] at hbx
        have hbx : H0 bx = some (.lst [.bl S.ajar, .ref l1, .str S.tf, .ref l3, .int a, oV S.last]) := hbx
        show if (!decide (V.int a = V.non)) = true then _ else _
        rw [if_pos (show (!decide (V.int a = V.non)) = true from rfl)]
        refine ⟨_, rfl, bx, _, 4, _, rfl, rfl, SqL.of hbx, rfl, _, _, rfl, rfl, _, rfl, bx, _, 4, 4, rfl, rfl, hbx, rfl, ?_⟩
        have c2 := c0.put (S2 := { S with age := some (a + 1) }) (o := .lst [.bl S.ajar, .ref l1, .str S.tf, .ref l3, .int (a + 1), oV S.last]) ⟨l1, l3, ys, upd_same, (upd_ne n1).trans hl1, (upd_ne n3).trans hl3, hpm, ho, n1, n3, nd, u1, u3⟩
        have b2 := b0.put (a := bx) (o := .lst [.bl S.ajar, .ref l1, .str S.tf, .ref l3, .int (a + 1), oV S.last]) (.inr (by simp))
        have hbx2 : upd H0 bx (.lst [.bl S.ajar, .ref l1, .str S.tf, .ref l3, .int (a + 1), oV S.last]) bx = _ := upd_same
        show Ends.nx _ _ (upd H0 bx (.lst [.bl S.ajar, .ref l1, .str S.tf, .ref l3, .int (a + 1), oV S.last]))
        generalize upd H0 bx (.lst [.bl S.ajar, .ref l1, .str S.tf, .ref l3, .int (a + 1), oV S.last]) = H2 at c2 b2 hbx2
        obtain ⟨tt, qs, hpp, hpt, h3⟩ := id c2.p
        refine ⟨_, rfl, bx, _, 4, _, rfl, rfl, SqL.of hbx2, rfl, _, rfl, pl, _, 0, _, rfl, rfl, hpp, rfl, rfl, _, rfl, L2.ite2 (fun c => ?_) (fun c => ?_)⟩
        · have c9 : a + 1 = d := by
            have := of_decide_eq_true c
            cases this
            rfl
          rw [if_pos c9] at e
          have ec := carry_T (at_ rs 6) "late" { S with age := some (a + 1) } T0
          rw [← e] at ec
          refine carry_do 6 "late" rfl rfl rfl c2 hg ⟨bd.i, bd.v, bd.s, bd.r, bd.l, bd.w, bd.m⟩ (show n ≤ 100000 by omega) (Nat.zero_le _) rfl fun H3 b3 c3 => ?_
          exact wp_no rfl nDW (fin H3 G _ _ _ false (b2.trans b3) c3 ec.1.symm (by rw [ec.2]; rfl) (by rw [ec.2]; rfl) (by rw [ec.2]; rfl))
        · have c9 : a + 1 ≠ d := fun z => c (decide_eq_true (by rw [z]))
          rw [if_neg c9] at e
          rw [e] at fin
          exact wp_no rfl nDW (fin H2 G [] [] _ false b2 c2 rfl rfl rfl rfl)
    | power =>
      refine ⟨_, rfl, rfl, _, rfl, ?_⟩
      rw [str_eqF (show wordD .power ≠ "bring" from nWB)]
      refine ⟨_, rfl, ?_⟩
      refine ⟨_, rfl, rfl, _, rfl, ?_⟩
      rw [str_eqF (show wordD .power ≠ "code" from nWC)]
      refine wq_no rfl nWB (wq_no rfl nWC (wq_no rfl nWP (wq_no rfl nWD (wp_yes rfl rfl ?_))))
      have e := carry_T (at_ rs 7) "power" S T0
      have eU : (doF rs d num .power S).2 = _ := e.2
      have eS : (doF rs d num .power S).1 = _ := e.1
      refine carry_do 7 "power" rfl rfl rfl c0 hg bd (by omega) (Nat.zero_le _) rfl fun H3 b3 c3 => ?_
      exact fin H3 G _ _ _ false (b0.trans b3) c3 eS.symm (by rw [eU]; rfl) (by rw [eU]; rfl) (by rw [eU]; rfl)
theorem c_law_report (T : Txt w K mg) : C8.Cal P w K mg base 4 "_law_report" (sp_law_report K) [] := by
  obtain ⟨fd, F⟩ := T.f_law_report
  exact ⟨_, fd, _, _, ok_law_report T F, T.g_law_report, F.kp, F.bindsN (fun _ _ _ _ _ _ us hl => match us, hl with | [_, _, _, _], _ => rfl), .nil⟩
end
end K15

namespace K15
open PySem PySem.Spec PyProof.Rows L2 My StX
/-! ### the text of deeds, read -/
def wordsF : Deed → List Str
  | .bring l s => ["bring", layS l, shutS s]
  | .code p t s => ["code", numS p, takeS t, shutS s]
  | .pass => ["pass"]
  | .day => ["day"]
  | .power => ["power"]
theorem line_words (dd : Deed) : lineF dd = Txt.join " " (wordsF dd) := by
  cases dd with
  | bring l s => rfl
  | code p t s => rfl
  | pass => show ("pass" : Str) = _; decide +kernel
  | day => show ("day" : Str) = _; decide +kernel
  | power => show ("power" : Str) = _; decide +kernel
theorem words_no {dd : Deed} (h : dd.Ok) : ∀ p ∈ wordsF dd, 10 ∉ TL.tl p ∧ 32 ∉ TL.tl p := by
  have h1 : ∀ l, 10 ∉ TL.tl (layS l) ∧ 32 ∉ TL.tl (layS l) := fun l => by cases l <;> decide +kernel
  have h2 : ∀ l, 10 ∉ TL.tl (takeS l) ∧ 32 ∉ TL.tl (takeS l) := fun l => by cases l <;> decide +kernel
  have h3 : ∀ l, 10 ∉ TL.tl (shutS l) ∧ 32 ∉ TL.tl (shutS l) := fun l => by cases l <;> decide +kernel
  have h4 : ∀ x ∈ (["bring", "code", "pass", "day", "power"] : List Str), 10 ∉ TL.tl x ∧ 32 ∉ TL.tl x := by decide +kernel
  intro p hp
  cases dd with
  | bring l s =>
    rcases List.mem_cons.mp hp with z | hp
    · exact h4 p (by rw [z]; decide +kernel)
    · rcases List.mem_cons.mp hp with z | hp
      · rw [z]; exact h1 l
      · rw [List.mem_singleton.mp hp]; exact h3 s
  | code q t s =>
    rcases List.mem_cons.mp hp with z | hp
    · exact h4 p (by rw [z]; decide +kernel)
    · rcases List.mem_cons.mp hp with z | hp
      · rw [z]; exact num_free h.1
      · rcases List.mem_cons.mp hp with z | hp
        · rw [z]; exact h2 t
        · rw [List.mem_singleton.mp hp]; exact h3 s
  | pass => exact h4 p (by rw [List.mem_singleton.mp hp]; decide +kernel)
  | day => exact h4 p (by rw [List.mem_singleton.mp hp]; decide +kernel)
  | power => exact h4 p (by rw [List.mem_singleton.mp hp]; decide +kernel)
theorem deed_split {dd : Deed} (h : dd.Ok) : Txt.split (lineF dd) " " = wordsF dd := by
  rw [line_words]
  exact TL.split_join (y := " ") (s := 32) (S := []) (by decide +kernel) (by decide +kernel) (fun z => by cases dd <;> cases z) fun p hp => (words_no h p hp).2
theorem wordsF_len (dd : Deed) : (wordsF dd).length ≤ 4 := by
  cases dd <;> simp [wordsF]
section
variable {P : Program} {w : World} {K : PySem.W.Frag} {mg : Str → Option Value} {base : Heap}
theorem lay_in (T : Txt w K mg) (l : Bool) : PySem.W.nsIn K (He.ga K "LAYS") (layS l) = some (some (.bool l)) := by
  cases l
  · exact T.kv_LAYS_bare
  · exact T.kv_LAYS_lay
theorem take_in (T : Txt w K mg) (l : Bool) : PySem.W.nsIn K (He.ga K "TAKES") (takeS l) = some (some (.bool l)) := by
  cases l
  · exact T.kv_TAKES_leave
  · exact T.kv_TAKES_take
theorem shut_in (T : Txt w K mg) (l : Bool) : PySem.W.nsIn K (He.ga K "SHUTS") (shutS l) = some (some (.bool l)) := by
  cases l
  · exact T.kv_SHUTS_ajar
  · exact T.kv_SHUTS_shut
def sp_read_deed (K : PySem.W.Frag) : Sp := fun vs H Q _ => ∃ (dd : Deed), vs = [.str (lineF dd)] ∧ dd.Ok ∧ ∀ H' t, Same H H' → H' t = some (.tup dd.vs) → Q (.ref t) H'
set_option maxHeartbeats 2000000 in
theorem ok_read_deed (T : Txt w K mg) {fd : FuncData} (F : FunD K d_read_deed.name d_read_deed.qual d_read_deed.params d_read_deed.body d_read_deed.scope (d_read_deed.dvs K) (d_read_deed.kws K) (He.fAd K d_read_deed.at_) fd) : FnOk P w K mg base C8.CX0 2 (He.fAd K d_read_deed.at_) fd ["line"] (sp_read_deed K) := by
  obtain ⟨t_MOST_PARCEL, g_MOST_PARCEL⟩ := T.g_MOST_PARCEL
  have c_read_number := c_read_number (P := P) (w := w) (base := base) T
  refine F.ok sc_read_deed (fun vs H Q E h => ?_) (fun cdv A outer s H vs Q E hr h => ?_)
  · obtain ⟨dd, rfl, _⟩ := h
    rfl
  · have hu := L2.hu_of hr
    obtain ⟨dd, rfl, hok, q⟩ := h
    refine ⟨_, (PSs.nox ((pss_cons (ps_set (i := 1) sc_read_deed.nd rfl (by first | exact Or.inl rfl | exact Or.inr rfl) (pe_split (pv 0) pe_str))
  (pss_cons (ps_par (i := 2) (j := 3) (by rfl) sc_read_deed.nd rfl rfl (by decide) rfl rfl (pa_cons (pe_ix (My.ix_listK (K := K) rfl) (pv 1) pe_int (fun _ _ => rfl)) (pa_cons (pe_slice (My.sl_listK (K := K) rfl) (pv 1) (po_some pe_int) po_none) pa_nil)) (by rfl))
  (pss_cons (ps_if (PW.pt (pw_and (pt_cmpR op_eq (pv 2) pe_str (nomark _)) (pw_and (pt_cmpR op_eq (pe_callB (My.len_seqK (K := K) rfl) (by rfl) T.len (by decide +kernel) (pa_cons (pv 3) pa_nil)) pe_int (nomark _)) (pw_and (pt_cmpR (My.op_inKD (K := K) (w := w) rfl rfl T.kd_LAYS) (pe_ix (My.ix_listK (K := K) rfl) (pv 3) pe_int (fun _ _ => rfl)) (pe_glob (v := .ref (He.ga K "LAYS")) rfl T.g_LAYS rfl) (by rfl)) (pw_and1 (pt_cmpR (My.op_inKD (K := K) (w := w) rfl rfl T.kd_SHUTS) (pe_ix (My.ix_listK (K := K) rfl) (pv 3) pe_int (fun _ _ => rfl)) (pe_glob (v := .ref (He.ga K "SHUTS")) rfl T.g_SHUTS rfl) (by rfl)))))))
  (pss_one (ps_ret (pe_tup (pa_cons pe_str (pa_cons (pe_ix (My.ix_kdictK (K := K) (w := w) rfl rfl) (pe_glob (v := .ref (He.ga K "LAYS")) rfl T.g_LAYS rfl) (pe_ix (My.ix_listK (K := K) rfl) (pv 3) pe_int (fun _ _ => rfl)) (fun _ _ => rfl)) (pa_cons (pe_ix (My.ix_kdictK (K := K) (w := w) rfl rfl) (pe_glob (v := .ref (He.ga K "SHUTS")) rfl T.g_SHUTS rfl) (pe_ix (My.ix_listK (K := K) rfl) (pv 3) pe_int (fun _ _ => rfl)) (fun _ _ => rfl)) pa_nil))))))
  pss_nil)
  (pss_cons (ps_if (PW.pt (pw_and (pt_cmpR op_eq (pv 2) pe_str (nomark _)) (pw_and (pt_cmpR op_eq (pe_callB (My.len_seqK (K := K) rfl) (by rfl) T.len (by decide +kernel) (pa_cons (pv 3) pa_nil)) pe_int (nomark _)) (pw_and (pt_cmpR (My.op_inKD (K := K) (w := w) rfl rfl T.kd_TAKES) (pe_ix (My.ix_listK (K := K) rfl) (pv 3) pe_int (fun _ _ => rfl)) (pe_glob (v := .ref (He.ga K "TAKES")) rfl T.g_TAKES rfl) (by rfl)) (pw_and1 (pt_cmpR (My.op_inKD (K := K) (w := w) rfl rfl T.kd_SHUTS) (pe_ix (My.ix_listK (K := K) rfl) (pv 3) pe_int (fun _ _ => rfl)) (pe_glob (v := .ref (He.ga K "SHUTS")) rfl T.g_SHUTS rfl) (by rfl)))))))
  (pss_cons (ps_set (i := 4) sc_read_deed.nd rfl (by first | exact Or.inl rfl | exact Or.inr rfl) (C8.pe_c c_read_number hr (by decide) rfl (pa_cons (pe_ix (My.ix_listK (K := K) rfl) (pv 3) pe_int (fun _ _ => rfl)) (pa_cons (pe_glob (v := .int 1000000000) rfl g_MOST_PARCEL ⟨_, rfl⟩) pa_nil))))
  (pss_one (ps_ret (pe_ifExp (pt_cmpR op_isN (pv 4) pe_non (nomark _)) pe_non (pe_tup (pa_cons pe_str (pa_cons (pv 4) (pa_cons (pe_ix (My.ix_kdictK (K := K) (w := w) rfl rfl) (pe_glob (v := .ref (He.ga K "TAKES")) rfl T.g_TAKES rfl) (pe_ix (My.ix_listK (K := K) rfl) (pv 3) pe_int (fun _ _ => rfl)) (fun _ _ => rfl)) (pa_cons (pe_ix (My.ix_kdictK (K := K) (w := w) rfl rfl) (pe_glob (v := .ref (He.ga K "SHUTS")) rfl T.g_SHUTS rfl) (pe_ix (My.ix_listK (K := K) rfl) (pv 3) pe_int (fun _ _ => rfl)) (fun _ _ => rfl)) pa_nil)))))))))
  pss_nil)
  (pss_one (ps_ret (pe_ifExp (PW.pt (pw_and (pt_not (My.pt_truthK (K := K) rfl (pv 3) (by intro _; rfl))) (pw_and1 (pt_cmpR (My.in_seqK (K := K) rfl) (pv 2) (pe_glob (v := .ref (He.ga K "SINGLE_WORDS")) rfl T.g_SINGLE_WORDS rfl) (by rfl))))) (pe_tup (pa_cons (pv 2) pa_nil)) pe_non))))))))), ?_⟩
    refine ⟨_, rfl, ⟨_, rfl⟩, _, " ", rfl, rfl, by decide +kernel, ?_, fun L hL => ?_⟩
    · have := line_len hok
      exact Nat.le_of_lt (lt_line (by omega))
    rw [deed_split hok]
    have yL := same_new (o := .lst ((wordsF dd).map V.str)) hL
    have hLn : upd H L (.lst ((wordsF dd).map V.str)) L = some (.lst ((wordsF dd).map V.str)) := upd_same
    have ln := wordsF_len dd
    show Ends.nx _ _ (upd H L (.lst ((wordsF dd).map V.str)))
    generalize upd H L (.lst ((wordsF dd).map V.str)) = H1 at yL hLn
    cases dd with
    | bring l s =>
      refine ⟨_, rfl, L, _, 0, _, rfl, rfl, SqL.of hLn, atI_nat (j := 0) rfl, _, rfl, 1, rfl, L, _, rfl, SqL.of hLn, fun M hM => ⟨_, _, rfl, ?_⟩⟩
      have ec : cutV ((wordsF (.bring l s)).map V.str) (some (1 : Int)) none = [.str (layS l), .str (shutS s)] := cut_from (c := 1)
      rw [ec]
      have yM := same_new (o := .lst [.str (layS l), .str (shutS s)]) hM
      have y := yL.trans yM
      have hM1 : upd H1 M (.lst [.str (layS l), .str (shutS s)]) M = some (.lst [.str (layS l), .str (shutS s)]) := upd_same
      refine ⟨_, rfl, rfl, _, rfl, ?_⟩
      rw [str_eqT (show ("bring" : Str) = "bring" from rfl)]
      refine ⟨_, rfl, _, _, rfl, .inl (SqL.of hM1), rfl, _, rfl, L2.ite2 (fun _ => ?_) (fun c => absurd rfl c)⟩
      refine ⟨_, rfl, M, _, 0, _, rfl, rfl, SqL.of hM1, atI_nat (j := 0) rfl, _, _, rfl, rfl, lay_in T l, _, rfl, ?_⟩
      refine ⟨_, rfl, M, _, 1, _, rfl, rfl, SqL.of hM1, atI_nat (j := 1) rfl, _, _, rfl, rfl, shut_in T s, _, rfl, ?_⟩
      refine ⟨_, rfl, M, _, 0, _, rfl, rfl, SqL.of hM1, atI_nat (j := 0) rfl, _, _, .bl l, rfl, rfl, kdct_of T.kd_LAYS (lay_in T l) rfl, ?_⟩
      refine ⟨_, rfl, M, _, 1, _, rfl, rfl, SqL.of hM1, atI_nat (j := 1) rfl, _, _, .bl s, rfl, rfl, kdct_of T.kd_SHUTS (shut_in T s) rfl, ?_⟩
      exact ⟨by show 3 ≤ sizeLine; decide, fun t ht => q _ t (y.trans (same_new ht)) upd_same⟩
    | code p t s =>
      refine ⟨_, rfl, L, _, 0, _, rfl, rfl, SqL.of hLn, atI_nat (j := 0) rfl, _, rfl, 1, rfl, L, _, rfl, SqL.of hLn, fun M hM => ⟨_, _, rfl, ?_⟩⟩
      have ec : cutV ((wordsF (.code p t s)).map V.str) (some (1 : Int)) none = [.str (numS p), .str (takeS t), .str (shutS s)] := cut_from (c := 1)
      rw [ec]
      have yM := same_new (o := .lst [.str (numS p), .str (takeS t), .str (shutS s)]) hM
      have y := yL.trans yM
      have hM1 : upd H1 M (.lst [.str (numS p), .str (takeS t), .str (shutS s)]) M = some (.lst [.str (numS p), .str (takeS t), .str (shutS s)]) := upd_same
      refine ⟨_, rfl, rfl, _, rfl, ?_⟩
      rw [str_eqF (show ("code" : Str) ≠ "bring" by decide +kernel)]
      refine ⟨_, rfl, rfl, _, rfl, ?_⟩
      rw [str_eqT (show ("code" : Str) = "code" from rfl)]
      refine ⟨_, rfl, _, _, rfl, .inl (SqL.of hM1), rfl, _, rfl, L2.ite2 (fun _ => ?_) (fun c => absurd rfl c)⟩
      refine ⟨_, rfl, M, _, 1, _, rfl, rfl, SqL.of hM1, atI_nat (j := 1) rfl, _, _, rfl, rfl, take_in T t, _, rfl, ?_⟩
      refine ⟨_, rfl, M, _, 2, _, rfl, rfl, SqL.of hM1, atI_nat (j := 2) rfl, _, _, rfl, rfl, shut_in T s, _, rfl, ?_⟩
      refine ⟨_, rfl, M, _, 0, _, rfl, rfl, SqL.of hM1, atI_nat (j := 0) rfl, p, 1000000000, rfl, hok.1, hok.2, by decide, fun H2 y2 => ?_⟩
      have hM2 := y2 _ _ hM1
      refine ⟨_, rfl, rfl, _, rfl, ?_⟩
      rw [decide_eq_false (show V.int p ≠ V.non by intro z; cases z)]
      refine ⟨_, rfl, _, rfl, M, _, 1, _, rfl, rfl, SqL.of hM2, atI_nat (j := 1) rfl, _, _, .bl t, rfl, rfl, kdct_of T.kd_TAKES (take_in T t) rfl, ?_⟩
      refine ⟨_, rfl, M, _, 2, _, rfl, rfl, SqL.of hM2, atI_nat (j := 2) rfl, _, _, .bl s, rfl, rfl, kdct_of T.kd_SHUTS (shut_in T s) rfl, ?_⟩
      exact ⟨by show 4 ≤ sizeLine; decide, fun t ht => q _ t ((y.trans y2).trans (same_new ht)) upd_same⟩
    | pass =>
      refine ⟨_, rfl, L, _, 0, _, rfl, rfl, SqL.of hLn, atI_nat (j := 0) rfl, _, rfl, 1, rfl, L, _, rfl, SqL.of hLn, fun M hM => ⟨_, _, rfl, ?_⟩⟩
      have ec : cutV ((wordsF .pass).map V.str) (some (1 : Int)) none = [] := cut_from (c := 1)
      rw [ec]
      have yM := same_new (o := .lst []) hM
      have y := yL.trans yM
      have hM1 : upd H1 M (.lst []) M = some (.lst []) := upd_same
      refine ⟨_, rfl, rfl, _, rfl, ?_⟩
      rw [str_eqF (show ("pass" : Str) ≠ "bring" by decide +kernel)]
      refine ⟨_, rfl, rfl, _, rfl, ?_⟩
      rw [str_eqF (show ("pass" : Str) ≠ "code" by decide +kernel)]
      refine ⟨_, rfl, false, .inl ⟨_, SqL.of hM1, rfl⟩, ?_⟩
      refine ⟨_, rfl, _, _, rfl, .inr (T.tup_SINGLE_WORDS _), rfl, rfl, _, rfl, ?_⟩
      exact ⟨_, rfl, by show 1 ≤ sizeLine; decide, fun t ht => q _ t (y.trans (same_new ht)) upd_same⟩
    | day =>
      refine ⟨_, rfl, L, _, 0, _, rfl, rfl, SqL.of hLn, atI_nat (j := 0) rfl, _, rfl, 1, rfl, L, _, rfl, SqL.of hLn, fun M hM => ⟨_, _, rfl, ?_⟩⟩
      have ec : cutV ((wordsF .day).map V.str) (some (1 : Int)) none = [] := cut_from (c := 1)
      rw [ec]
      have yM := same_new (o := .lst []) hM
      have y := yL.trans yM
      have hM1 : upd H1 M (.lst []) M = some (.lst []) := upd_same
      refine ⟨_, rfl, rfl, _, rfl, ?_⟩
      rw [str_eqF (show ("day" : Str) ≠ "bring" by decide +kernel)]
      refine ⟨_, rfl, rfl, _, rfl, ?_⟩
      rw [str_eqF (show ("day" : Str) ≠ "code" by decide +kernel)]
      refine ⟨_, rfl, false, .inl ⟨_, SqL.of hM1, rfl⟩, ?_⟩
      refine ⟨_, rfl, _, _, rfl, .inr (T.tup_SINGLE_WORDS _), rfl, rfl, _, rfl, ?_⟩
      exact ⟨_, rfl, by show 1 ≤ sizeLine; decide, fun t ht => q _ t (y.trans (same_new ht)) upd_same⟩
    | power =>
      refine ⟨_, rfl, L, _, 0, _, rfl, rfl, SqL.of hLn, atI_nat (j := 0) rfl, _, rfl, 1, rfl, L, _, rfl, SqL.of hLn, fun M hM => ⟨_, _, rfl, ?_⟩⟩
      have ec : cutV ((wordsF .power).map V.str) (some (1 : Int)) none = [] := cut_from (c := 1)
      rw [ec]
      have yM := same_new (o := .lst []) hM
      have y := yL.trans yM
      have hM1 : upd H1 M (.lst []) M = some (.lst []) := upd_same
      refine ⟨_, rfl, rfl, _, rfl, ?_⟩
      rw [str_eqF (show ("power" : Str) ≠ "bring" by decide +kernel)]
      refine ⟨_, rfl, rfl, _, rfl, ?_⟩
      rw [str_eqF (show ("power" : Str) ≠ "code" by decide +kernel)]
      refine ⟨_, rfl, false, .inl ⟨_, SqL.of hM1, rfl⟩, ?_⟩
      refine ⟨_, rfl, _, _, rfl, .inr (T.tup_SINGLE_WORDS _), rfl, rfl, _, rfl, ?_⟩
      exact ⟨_, rfl, by show 1 ≤ sizeLine; decide, fun t ht => q _ t (y.trans (same_new ht)) upd_same⟩
theorem c_read_deed (T : Txt w K mg) : C8.Cal P w K mg base 2 "read_deed" (sp_read_deed K) [] := by
  obtain ⟨fd, F⟩ := T.f_read_deed
  exact ⟨_, fd, _, _, ok_read_deed T F, T.g_read_deed, F.kp, F.bindsN (fun _ _ _ _ _ _ us hl => match us, hl with | [_], _ => rfl), .nil⟩
end
end K15

namespace K15
open PySem PySem.Spec PyProof.Rows L2 My StX
theorem sz_deed (d : Deed) (n : Nat) : Sized (n + 2) (deedD d) := by
  cases d <;> refine ⟨by simp, fun e he => ?_⟩ <;> simp only [List.mem_cons, List.not_mem_nil, or_false] at he
  · rcases he with rfl | rfl | rfl <;> exact trivial
  · rcases he with rfl | rfl | rfl | rfl <;> exact trivial
  · rw [he]; exact trivial
  · rw [he]; exact trivial
  · rw [he]; exact trivial
theorem sz_deeds {ds : List Deed} (h : ds.length ≤ 5000) (n : Nat) : Sized (n + 3) (.list (ds.map deedD)) := ⟨by rw [List.length_map]; omega, fun e he => by
  obtain ⟨d, _, rfl⟩ := List.mem_map.mp he
  exact sz_deed d n⟩
theorem pick2 {K : PySem.W.Frag} {H : Hp} {p : Addr} {x y : Str} {l : Bool} {Q : VK} (h : H p = some (.lst [.str x, .str y])) (q : Q (.str (if l = true then y else x)) H) : rIxL K (.ref p) (.int (if l = true then 1 else 0)) H Q := by
  refine ⟨p, _, _, .str (if l = true then y else x), rfl, rfl, SqL.of h, ?_, q⟩
  cases l <;> rfl
theorem line_free2 {dd : Deed} (h : dd.Ok) : 10 ∉ TL.tl (lineF dd) := by
  rw [line_words, TL.join_eq, TL.tl_join]
  refine joinL_free (by decide +kernel) fun y hy => ?_
  obtain ⟨p, hp, rfl⟩ := List.mem_map.mp hy
  exact (words_no h p hp).1
theorem text_split {ds : List Deed} (hok : ∀ d ∈ ds, d.Ok) (ne : ds ≠ []) : Txt.split (textF ds) "\n" = ds.map lineF := by
  unfold textF
  refine TL.split_join (y := "\n") (s := 10) (S := []) (by decide +kernel) (by decide +kernel) (fun z => ne (List.map_eq_nil_iff.mp z)) fun p hp => ?_
  obtain ⟨d, hd, rfl⟩ := List.mem_map.mp hp
  exact line_free2 (hok d hd)
theorem text_len {ds : List Deed} (hok : ∀ d ∈ ds, d.Ok) (hl : ds.length ≤ 5000) : (textF ds).length ≤ 300000 := by
  have h := join_len "\n" (ds.map lineF)
  have h1 := sum_lines hok
  have e2 : ("\n" : Str).length = 1 := by decide +kernel
  rw [List.length_map, e2] at h
  unfold textF
  omega
theorem text_ne {d : Deed} {ds : List Deed} : textF (d :: ds) ≠ "" := by
  intro z
  have e : TL.tl (textF (d :: ds)) = TL.tl ("" : Str) := by rw [z]
  have e0 : TL.tl ("" : Str) = [] := by decide +kernel
  rw [e0] at e
  unfold textF at e
  rw [TL.join_eq, TL.tl_join] at e
  have hd : TL.tl (lineF d) ≠ [] := by
    cases d with
    | bring l s => rw [show lineF (.bring l s) = Txt.join " " ["bring", layS l, shutS s] from rfl, tl_join3]; intro y; exact absurd (List.append_eq_nil_iff.mp y).1 (by decide +kernel)
    | code p t s => rw [show lineF (.code p t s) = Txt.join " " ["code", numS p, takeS t, shutS s] from rfl, tl_join4]; intro y; exact absurd (List.append_eq_nil_iff.mp y).1 (by decide +kernel)
    | pass => decide +kernel
    | day => decide +kernel
    | power => decide +kernel
  cases ds with
  | nil => exact hd e
  | cons x r => exact hd (List.append_eq_nil_iff.mp (show TL.tl (lineF d) ++ (TL.tl ("\n" : Str) ++ TL.joinL (TL.tl ("\n" : Str)) ((lineF x :: r.map lineF).map TL.tl)) = [] from e)).1
section
variable {P : Program} {w : World} {K : PySem.W.Frag} {mg : Str → Option Value} {base : Heap}
def sp_law_deed_line (K : PySem.W.Frag) : Sp := fun vs H Q _ => ∃ (a : Addr) (d : Deed), vs = [.ref a] ∧ SqT K H a d.vs ∧ d.Ok ∧ ∀ H', Same H H' → Q (.str (lineF d)) H'
set_option maxHeartbeats 2000000 in
theorem ok_law_deed_line (T : Txt w K mg) {fd : FuncData} (F : FunD K d_law_deed_line.name d_law_deed_line.qual d_law_deed_line.params d_law_deed_line.body d_law_deed_line.scope (d_law_deed_line.dvs K) (d_law_deed_line.kws K) (He.fAd K d_law_deed_line.at_) fd) : FnOk P w K mg base C8.CX0 1 (He.fAd K d_law_deed_line.at_) fd ["deed"] (sp_law_deed_line K) := by
  refine F.ok sc_law_deed_line (fun vs H Q E h => ?_) (fun cdv A outer s H vs Q E hr h => ?_)
  · obtain ⟨a, d, rfl, _⟩ := h
    rfl
  · have hu := L2.hu_of hr
    obtain ⟨a, d, rfl, hS, hok, q⟩ := h
    refine ⟨_, (PSs.nox ((pss_cons (ps_if (pt_cmpR op_eq (pe_ix (My.ix_tupK (K := K) rfl) (pv 0) pe_int (fun _ _ => rfl)) pe_str (nomark _))
  (pss_one (ps_ret (pe_op op_add_str (pe_op op_add_str (pe_op op_add_str pe_str (pe_ix (My.ix_listK (K := K) rfl) (pe_lst (pa_cons pe_str (pa_cons pe_str pa_nil))) (pe_callTy call_int1 (by rfl) T.int (by decide +kernel) (pa_cons (pe_ix (My.ix_tupK (K := K) rfl) (pv 0) pe_int (fun _ _ => rfl)) pa_nil)) (fun _ _ => rfl))) pe_str) (pe_ix (My.ix_listK (K := K) rfl) (pe_lst (pa_cons pe_str (pa_cons pe_str pa_nil))) (pe_callTy call_int1 (by rfl) T.int (by decide +kernel) (pa_cons (pe_ix (My.ix_tupK (K := K) rfl) (pv 0) pe_int (fun _ _ => rfl)) pa_nil)) (fun _ _ => rfl)))))
  pss_nil)
  (pss_cons (ps_if (pt_cmpR op_eq (pe_ix (My.ix_tupK (K := K) rfl) (pv 0) pe_int (fun _ _ => rfl)) pe_str (nomark _))
  (pss_cons (ps_set (i := 1) sc_law_deed_line.nd rfl (by first | exact Or.inl rfl | exact Or.inr rfl) (pe_op op_add_str (pe_op op_add_str (pe_ix (My.ix_listK (K := K) rfl) (pe_lst (pa_cons pe_str (pa_cons pe_str pa_nil))) (pe_callTy call_int1 (by rfl) T.int (by decide +kernel) (pa_cons (pe_ix (My.ix_tupK (K := K) rfl) (pv 0) pe_int (fun _ _ => rfl)) pa_nil)) (fun _ _ => rfl)) pe_str) (pe_ix (My.ix_listK (K := K) rfl) (pe_lst (pa_cons pe_str (pa_cons pe_str pa_nil))) (pe_callTy call_int1 (by rfl) T.int (by decide +kernel) (pa_cons (pe_ix (My.ix_tupK (K := K) rfl) (pv 0) pe_int (fun _ _ => rfl)) pa_nil)) (fun _ _ => rfl))))
  (pss_one (ps_ret (pe_op op_add_str (pe_op op_add_str (pe_op op_add_str pe_str (pe_callTy call_str_int (by rfl) T.str (by decide +kernel) (pa_cons (pe_ix (My.ix_tupK (K := K) rfl) (pv 0) pe_int (fun _ _ => rfl)) pa_nil))) pe_str) (pv 1)))))
  pss_nil)
  (pss_one (ps_ret (pe_ix (My.ix_tupK (K := K) rfl) (pv 0) pe_int (fun _ _ => rfl)))))))), ?_⟩
    have w0 : atI d.vs 0 = some (.str d.w) := by cases d <;> rfl
    refine ⟨_, rfl, a, _, 0, _, rfl, rfl, hS, w0, rfl, _, rfl, ?_⟩
    cases d with
    | bring l s =>
      refine ⟨by show 2 ≤ sizeLine; decide, fun p1 hp1 => ?_⟩
      have y1 := same_new (o := .lst [.str "bare", .str "lay"]) hp1
      have h1 := lay_len l
      have h2 := shut_len s
      refine ⟨_, rfl, a, _, 1, _, rfl, rfl, same_tup y1 hS, rfl, .inr ⟨l, rfl, ?_⟩⟩
      refine pick2 upd_same ⟨_, _, rfl, rfl, cat_ok 6 4 (by decide +kernel) h1, ?_⟩
      have c1 := app_len (x := "bring ") (y := layS l) 6 4 (by decide +kernel) h1
      refine ⟨_, _, rfl, rfl, cat_ok 10 1 c1 (by decide +kernel), by show 2 ≤ sizeLine; decide, fun p2 hp2 => ?_⟩
      have c2 := app_len (x := "bring " ++ layS l) (y := " ") 10 1 c1 (by decide +kernel)
      have y2 := same_new (o := .lst [.str "ajar", .str "shut"]) hp2
      refine ⟨_, rfl, a, _, 2, _, rfl, rfl, same_tup y2 (same_tup y1 hS), rfl, .inr ⟨s, rfl, ?_⟩⟩
      refine pick2 upd_same ⟨_, _, rfl, rfl, cat_ok 11 4 c2 h2, ?_⟩
      have e : "bring " ++ layS l ++ " " ++ shutS s = lineF (.bring l s) := by cases l <;> cases s <;> decide +kernel
      have := q _ (y1.trans y2)
      rw [← e] at this
      exact this
    | code p t s =>
      refine ⟨_, rfl, a, _, 0, _, rfl, rfl, hS, rfl, rfl, _, rfl, ?_⟩
      refine ⟨by show 2 ≤ sizeLine; decide, fun p1 hp1 => ?_⟩
      have y1 := same_new (o := .lst [.str "leave", .str "take"]) hp1
      have h0 := num_len hok
      have h1 := take_len t
      have h2 := shut_len s
      refine ⟨_, rfl, a, _, 2, _, rfl, rfl, same_tup y1 hS, rfl, .inr ⟨t, rfl, ?_⟩⟩
      refine pick2 upd_same ⟨_, _, rfl, rfl, cat_ok 5 1 h1 (by decide +kernel), by show 2 ≤ sizeLine; decide, fun p2 hp2 => ?_⟩
      have c1 := app_len (x := takeS t) (y := " ") 5 1 h1 (by decide +kernel)
      have y2 := same_new (o := .lst [.str "ajar", .str "shut"]) hp2
      refine ⟨_, rfl, a, _, 3, _, rfl, rfl, same_tup y2 (same_tup y1 hS), rfl, .inr ⟨s, rfl, ?_⟩⟩
      refine pick2 upd_same ⟨_, _, rfl, rfl, cat_ok 6 4 c1 h2, ?_⟩
      have c2 := app_len (x := takeS t ++ " ") (y := shutS s) 6 4 c1 h2
      have hS2 := same_tup y2 (same_tup y1 hS)
      refine ⟨_, rfl, a, _, 1, _, rfl, rfl, hS2, rfl, p, rfl, num_log hok, _, _, rfl, rfl, cat_ok 5 11 (by decide +kernel) h0, ?_⟩
      have c3 := app_len (x := "code ") (y := numS p) 5 11 (by decide +kernel) h0
      refine ⟨_, _, rfl, rfl, cat_ok 16 1 c3 (by decide +kernel), _, rfl, ?_⟩
      have c4 := app_len (x := "code " ++ numS p) (y := " ") 16 1 c3 (by decide +kernel)
      refine ⟨_, _, rfl, rfl, cat_ok 17 10 c4 c2, ?_⟩
      have e : "code " ++ numS p ++ " " ++ (takeS t ++ " " ++ shutS s) = lineF (.code p t s) := by
        show _ = Txt.join " " ["code", numS p, takeS t, shutS s]
        refine TL.ext_tl ?_
        rw [tl_join4]
        simp only [TL.tl_append, List.append_assoc]
        have e5 : TL.tl ("code " : Str) = TL.tl ("code" : Str) ++ TL.tl (" " : Str) := by decide +kernel
        rw [e5, List.append_assoc]
      have := q _ (y1.trans y2)
      rw [← e] at this
      exact this
    | pass => exact ⟨_, rfl, a, _, 0, _, rfl, rfl, hS, rfl, rfl, _, rfl, _, rfl, a, _, 0, _, rfl, rfl, hS, rfl, q _ (Same.refl _)⟩
    | day => exact ⟨_, rfl, a, _, 0, _, rfl, rfl, hS, rfl, rfl, _, rfl, _, rfl, a, _, 0, _, rfl, rfl, hS, rfl, q _ (Same.refl _)⟩
    | power => exact ⟨_, rfl, a, _, 0, _, rfl, rfl, hS, rfl, rfl, _, rfl, _, rfl, a, _, 0, _, rfl, rfl, hS, rfl, q _ (Same.refl _)⟩
theorem c_law_deed_line (T : Txt w K mg) : C8.Cal P w K mg base 1 "_law_deed_line" (sp_law_deed_line K) [] := by
  obtain ⟨fd, F⟩ := T.f_law_deed_line
  exact ⟨_, fd, _, _, ok_law_deed_line T F, T.g_law_deed_line, F.kp, F.bindsN (fun _ _ _ _ _ _ us hl => match us, hl with | [_], _ => rfl), .nil⟩
def sp_read_deeds (K : PySem.W.Frag) : Sp := fun vs H Q _ => ∃ (ds : List Deed), vs = [.str (textF ds)] ∧ (∀ d ∈ ds, d.Ok) ∧ ds.length ≤ 5000 ∧ ∀ (H' : Hp) (t : Addr) (us : List Addr), H t = none → Same H H' → H' t = some (.lst (us.map V.ref)) → DeedsAt K H' (us.map V.ref) ds → Q (.ref t) H'
set_option maxHeartbeats 2000000 in
theorem ok_read_deeds (T : Txt w K mg) {fd : FuncData} (F : FunD K d_read_deeds.name d_read_deeds.qual d_read_deeds.params d_read_deeds.body d_read_deeds.scope (d_read_deeds.dvs K) (d_read_deeds.kws K) (He.fAd K d_read_deeds.at_) fd) : FnOk P w K mg base C8.CX0 3 (He.fAd K d_read_deeds.at_) fd ["text"] (sp_read_deeds K) := by
  have c_read_deed := c_read_deed (P := P) (w := w) (base := base) T
  have c_lines_of := c_lines_of (P := P) (w := w) (base := base) T
  refine F.ok sc_read_deeds (fun vs H Q E h => ?_) (fun cdv A outer s H vs Q E hr h => ?_)
  · obtain ⟨ds, rfl, _⟩ := h
    rfl
  · have hu := L2.hu_of hr
    obtain ⟨ds, rfl, hok, hl, q⟩ := h
    refine ⟨_, (PSs.nox ((pss_cons (ps_set (i := 1) sc_read_deeds.nd rfl (by first | exact Or.inl rfl | exact Or.inr rfl) (C8.pe_c c_lines_of hr (by decide) rfl (pa_cons (pv 0) pa_nil)))
  (pss_cons (ps_if (pt_cmpR op_eq (pv 0) pe_str (nomark _))
  (pss_one (ps_ret (pe_lst pa_nil)))
  pss_nil)
  (pss_cons (ps_set (i := 2) sc_read_deeds.nd rfl (by first | exact Or.inl rfl | exact Or.inr rfl) (pe_lst pa_nil))
  (pss_cons (ps_for PassesOwn.never rfl (pi_enum (by rfl) T.enumerate (pa_cons (pv 1) pa_nil)) (My.pg_tupK (K := K) (n := 2) rfl rfl (pgs_cons (pg_name (i := 3) sc_read_deeds.nd rfl (by first | exact Or.inl rfl | exact Or.inr rfl)) (pgs_cons (pg_name (i := 4) sc_read_deeds.nd rfl (by first | exact Or.inl rfl | exact Or.inr rfl)) pgs_nil)))
  (pss_cons (ps_set (i := 5) sc_read_deeds.nd rfl (by first | exact Or.inl rfl | exact Or.inr rfl) (C8.pe_c c_read_deed hr (by decide) rfl (pa_cons (pv 4) pa_nil)))
  (pss_cons (ps_if (pt_cmpR op_isN (pv 5) pe_non (nomark _))
  (pss_one ps_never)
  pss_nil)
  (pss_one (ps_expr (My.pe_bmK (K := K) rfl PySem.F.plainAttrs_list PySem.F.slot_list_append PySem.F.type_list_append mt_append (pv 2) (pa_cons (pv 5) pa_nil)))))))
  (pss_one (ps_ret (pv 2))))))))), ?_⟩
    refine ⟨_, rfl, textF ds, rfl, ?_, fun L hL => ?_⟩
    · have := text_len hok hl
      exact Nat.le_trans (show _ ≤ 400000 by omega) (by decide)
    have yL := same_new (o := .lst ((Txt.split (textF ds) "\n").map V.str)) hL
    refine ⟨_, rfl, rfl, _, rfl, ?_⟩
    match ds, hok, hl, q, yL with
    | [], hok, hl, q, yL =>
      rw [decide_eq_true (show V.str (textF []) = V.str "" from congrArg V.str (show textF [] = ("" : Str) by decide +kernel))]
      refine ⟨Nat.zero_le _, fun t ht => ?_⟩
      have yt := same_new (o := .lst []) ht
      exact q _ t [] (yL.free ht) (yL.trans yt) upd_same .nil
    | d :: ds, hok, hl, q, yL =>
      rw [decide_eq_false (show V.str (textF (d :: ds)) ≠ V.str "" from fun z => text_ne (V.str.inj z))]
      rw [text_split hok (by simp)] at yL ⊢
      refine ⟨Nat.zero_le _, fun D hD => ?_⟩
      generalize d :: ds = ds at hok hl q yL hD ⊢
      have yD := same_new (o := .lst []) hD
      have hL1 := yD _ _ (show upd H L (.lst ((ds.map lineF).map V.str)) L = some (.lst ((ds.map lineF).map V.str)) from upd_same)
      have hHD : H D = none := yL.free hD
      refine ⟨_, rfl, L, _, rfl, SqL.of hL1, ?_⟩
      refine for_it (walk_enum (xs := (ds.map lineF).map V.str)) (fun i σ H' => ∃ (o3 o4 o5 : Option V) (us : List Addr), σ = [some (.str (textF ds)), some (.ref L), some (.ref D), o3, o4, o5] ∧ But [D] H H' ∧ H' L = some (.lst ((ds.map lineF).map V.str)) ∧ H' D = some (.lst (us.map V.ref)) ∧ DeedsAt K H' (us.map V.ref) (ds.take i)) ⟨_, _, _, [], rfl, But.of (yL.trans yD), hL1, upd_same, .nil⟩ (fun i σ H' _ ⟨_, _, _, _, _, _, z, _⟩ => SqL.of z) ?_ ?_
      · rintro i x σ H2 H3 hi ⟨o3, o4, o5, us, rfl, b2, hL2, hD2, hds⟩ ⟨t, x1, y, rfl, ht, rfl, e1, hy⟩
        cases e1
        obtain ⟨z, hz, rfl⟩ := map_get hy
        obtain ⟨dd, hdd, rfl⟩ := map_get hz
        have y3 := same_new (o := .tup [.int (i : Nat), .str (lineF dd)]) ht
        refine ⟨t, _, rfl, SqT.of upd_same, rfl, _, _, rfl, _, _, rfl, rfl, ?_⟩
        refine ⟨_, rfl, dd, rfl, hok dd (List.mem_of_getElem? hdd), fun H4 p y4 hp => ?_⟩
        have y5 := y3.trans y4
        refine ⟨_, rfl, rfl, _, rfl, ?_⟩
        rw [decide_eq_false (show V.ref p ≠ V.non by intro z; cases z)]
        have hD5 := y5 _ _ hD2
        have hds5 := hds.same y5
        have hi5 : i < ds.length := (List.getElem?_eq_some_iff.mp hdd).1
        have nLD : L ≠ D := ne_of_none (show upd H L (.lst ((ds.map lineF).map V.str)) L = some _ from upd_same) hD
        refine ⟨_, rfl, .inl ⟨rfl, _, SqL.of hD5⟩, _, rfl, D, _, _, rfl, rfl, hD5, ?_, _, _, _, us ++ [p], rfl, (b2.trans (But.of y5)).put (.inr (by simp)), (upd_ne nLD).trans (y5 _ _ hL2), by rw [upd_same, List.map_append]; rfl, ?_⟩
        · rw [hds.length, List.length_take]
          exact lt_line (by omega)
        · rw [take_more hdd, List.map_append]
          refine paired_app (paired_map (fun _ _ _ x => ?_) hds5) (.cons ⟨p, rfl, tupU hD5 (SqT.of hp)⟩ .nil)
          obtain ⟨c, e, h2⟩ := x
          exact ⟨c, e, tupU hD5 h2⟩
      · rintro σ H2 ⟨o3, o4, o5, us, rfl, b2, hL2, hD2, hds⟩
        have hn : ((ds.map lineF).map V.str).length = ds.length := by rw [List.length_map, List.length_map]
        rw [hn, List.take_length] at hds
        refine ⟨_, rfl, q H2 D us hHD (fun c o e => b2 c o (by simpa using ne_of_none e hHD) e) hD2 hds⟩
theorem c_read_deeds (T : Txt w K mg) : C8.Cal P w K mg base 3 "read_deeds" (sp_read_deeds K) [] := by
  obtain ⟨fd, F⟩ := T.f_read_deeds
  exact ⟨_, fd, _, _, ok_read_deeds T F, T.g_read_deeds, F.kp, F.bindsN (fun _ _ _ _ _ _ us hl => match us, hl with | [_], _ => rfl), .nil⟩
end
end K15

namespace K15
open PySem PySem.Spec PyProof.Rows L2 My StX
theorem playable_snoc {ds : List Deed} {dd : Deed} (h : Playable ds) (hd : ∀ p t s, dd = Deed.code p t s → 1 ≤ p ∧ p ≤ (brs ds : Int)) (hl : ds.length < 100000000) : Playable (ds ++ [dd]) := by
  refine ⟨by rw [List.length_append]; exact hl, fun i p t s e => ?_⟩
  by_cases hi : i < ds.length
  · rw [List.getElem?_append_left hi] at e
    rw [List.take_append_of_le_length (Nat.le_of_lt hi)]
    exact h.2 i p t s e
  · have hi2 : i = ds.length := by
      have := (List.getElem?_eq_some_iff.mp e).1
      rw [List.length_append] at this
      have : i < ds.length + 1 := this
      omega
    subst hi2
    rw [List.getElem?_append_right (Nat.le_refl _), Nat.sub_self] at e
    have e2 : dd = Deed.code p t s := Option.some.inj e
    rw [List.take_left]
    exact hd p t s e2
theorem brs_one (ds : List Deed) (d : Deed) : brs (ds ++ [d]) = brs ds + (if isBr d then 1 else 0) := by
  unfold brs
  rw [List.countP_append, List.countP_singleton]
end K15

namespace K15
open PySem PySem.Spec PyProof.Rows L2 My StX
theorem DeedsAt.draw {K : PySem.W.Frag} {a : Addr} {n : Nat} {H H' : Hp} {xs : List V} {ds : List Deed} (h : DeedsAt K H xs ds) (b : But [a] H H') (s : SpringAt H a n) : DeedsAt K H' xs ds := paired_map (fun _ _ _ x => by
  obtain ⟨c, e, h2⟩ := x
  exact ⟨c, e, But.tupS b s h2⟩) h
theorem DeedsAt.putL {K : PySem.W.Frag} {D : Addr} {l : List V} {o : HO} {H : Hp} {xs : List V} {ds : List Deed} (h : DeedsAt K H xs ds) (hD : H D = some (.lst l)) : DeedsAt K (upd H D o) xs ds := paired_map (fun _ _ _ x => by
  obtain ⟨c, e, h2⟩ := x
  exact ⟨c, e, tupU hD h2⟩) h
theorem deeds_rep {K : PySem.W.Frag} {H : Hp} {t : Addr} {d : Deed} (h : DeedAt K H (.ref t) d) (m : Nat) : DeedsAt K H ((List.replicate m t).map V.ref) (List.replicate m d) := by
  rw [List.map_replicate]
  exact paired_rep h m
theorem deeds_app {K : PySem.W.Frag} {H : Hp} {us vs : List Addr} {ds es : List Deed} (h : DeedsAt K H (us.map V.ref) ds) (g : DeedsAt K H (vs.map V.ref) es) : DeedsAt K H ((us ++ vs).map V.ref) (ds ++ es) := by
  rw [List.map_append]
  exact paired_app h g
theorem play_days {ds : List Deed} (h : Playable ds) : ∀ m : Nat, ds.length + m < 100000000 → Playable (ds ++ List.replicate m .day) ∧ brs (ds ++ List.replicate m .day) = brs ds
  | 0, _ => by rw [List.replicate_zero, List.append_nil]; exact ⟨h, rfl⟩
  | m + 1, hl => by
    obtain ⟨i1, i2⟩ := play_days h m (by omega)
    rw [List.replicate_succ', ← List.append_assoc]
    refine ⟨playable_snoc i1 (fun _ _ _ z => by cases z) (by rw [List.length_append, List.length_replicate]; omega), ?_⟩
    rw [brs_one, i2]
    rfl
theorem play_take {ds : List Deed} (h : Playable ds) (m : Nat) : Playable (ds.take m) := by
  refine ⟨Nat.le_trans (by rw [List.length_take]; exact Nat.min_le_right ..) h.1, fun i p t s e => ?_⟩
  have hi : i < m := by
    have := (List.getElem?_eq_some_iff.mp e).1
    rw [List.length_take] at this
    omega
  rw [List.getElem?_take_of_lt hi] at e
  have := h.2 i p t s e
  rw [List.take_take, Nat.min_eq_left (Nat.le_of_lt hi)]
  exact this
/-- the deeds that are found, amid the drawing -/
structure Fd (K : PySem.W.Frag) (H : Hp) (a D : Addr) (us : List Addr) (ds : List Deed) (n : Nat) (H' : Hp) : Prop where
  b : But [a] H H'
  s : SpringAt H' a n
  f : H D = none
  na : a ≠ D
  d : H' D = some (.lst (us.map V.ref))
  D : DeedsAt K H' (us.map V.ref) ds
  p : Playable ds
theorem Fd.same {K : PySem.W.Frag} {H H' H2 : Hp} {a D : Addr} {us : List Addr} {ds : List Deed} {n : Nat} (h : Fd K H a D us ds n H') (y : Same H' H2) : Fd K H a D us ds n H2 :=
  ⟨h.b.trans (But.of y), h.s.same y, h.f, h.na, y _ _ h.d, h.D.same y, h.p⟩
theorem Fd.draw {K : PySem.W.Frag} {H H' H2 : Hp} {a D : Addr} {us : List Addr} {ds : List Deed} {n m : Nat} (h : Fd K H a D us ds n H') (b : But [a] H' H2) (s : SpringAt H2 a m) : Fd K H a D us ds m H2 :=
  ⟨h.b.trans b, s, h.f, h.na, b _ _ (by simpa using h.na.symm) h.d, h.D.draw b h.s, h.p⟩
theorem Fd.more {K : PySem.W.Frag} {H H' : Hp} {a D : Addr} {us : List Addr} {ds : List Deed} {n m : Nat} (h : Fd K H a D us ds n H') (e : n ≤ m) : Fd K H a D us ds m H' :=
  ⟨h.b, h.s.mono e, h.f, h.na, h.d, h.D, h.p⟩
theorem DeedsAt.len {K : PySem.W.Frag} {H : Hp} {us : List Addr} {ds : List Deed} (h : DeedsAt K H (us.map V.ref) ds) : us.length = ds.length := by
  rw [← h.length, List.length_map]
theorem Fd.add {K : PySem.W.Frag} {H H' : Hp} {a D t : Addr} {us : List Addr} {ds : List Deed} {n : Nat} {dd : Deed} (h : Fd K H a D us ds n H') (ht : SqT K H' t dd.vs) (hd : ∀ p t s, dd = Deed.code p t s → 1 ≤ p ∧ p ≤ (brs ds : Int)) (hl : ds.length < 100000000) : Fd K H a D (us ++ [t]) (ds ++ [dd]) n (upd H' D (.lst (us.map V.ref ++ [.ref t]))) := by
  refine ⟨h.b.put (.inl h.f), h.s.put h.na, h.f, h.na, by rw [upd_same, List.map_append]; rfl, ?_, playable_snoc h.p hd hl⟩
  rw [List.map_append]
  exact paired_app (h.D.putL h.d) (.cons ⟨t, rfl, tupU h.d ht⟩ .nil)
section
variable {P : Program} {w : World} {K : PySem.W.Frag} {mg : Str → Option Value} {base : Heap}
theorem lt100 {m : Nat} (h : m ≤ 60000) : m < 2 ^ 100 := Nat.lt_of_le_of_lt h (by decide)
def sp_law_acts (K : PySem.W.Frag) : Sp := fun vs H Q _ => ∃ (a : Addr) (n : Nat) (d : Int), vs = [.ref a, .int d] ∧ SpringAt H a n ∧ n ≤ 40000 ∧ 1 ≤ d ∧ d ≤ 30 ∧ ∀ (H' : Hp) (t : Addr) (us : List Addr) (ds : List Deed), But [a] H H' → SpringAt H' a (n + 100) → H t = none → H' t = some (.lst (us.map V.ref)) → DeedsAt K H' (us.map V.ref) ds → (∀ d ∈ ds, d.Ok) → Playable ds → ds.length ≤ 40 → Q (.ref t) H'
set_option maxHeartbeats 2000000 in
theorem ok_law_acts (T : Txt w K mg) {fd : FuncData} (F : FunD K d_law_acts.name d_law_acts.qual d_law_acts.params d_law_acts.body d_law_acts.scope (d_law_acts.dvs K) (d_law_acts.kws K) (He.fAd K d_law_acts.at_) fd) : FnOk P w K mg base C8.CX0 2 (He.fAd K d_law_acts.at_) fd ["pot", "number"] (sp_law_acts K) := by
  have c_law_dip := c_law_dip (P := P) (w := w) (base := base) T
  refine F.ok sc_law_acts (fun vs H Q E h => ?_) (fun cdv A outer s H vs Q E hr h => ?_)
  · obtain ⟨a, n, d, rfl, _⟩ := h
    rfl
  · have hu := L2.hu_of hr
    obtain ⟨a, n, d, rfl, hs, hn, h1, h2, q⟩ := h
    refine ⟨_, (PSs.nox ((pss_cons (ps_par (i := 2) (j := 3) (by rfl) sc_law_acts.nd rfl rfl (by decide) rfl rfl (pa_cons (pe_lst pa_nil) (pa_cons pe_int pa_nil)) (by rfl))
  (pss_cons (ps_for PassesOwn.never rfl (pi_range1 (by rfl) T.range (pa_cons (C8.pe_c c_law_dip hr (by decide) rfl (pa_cons (pv 0) (pa_cons pe_int pa_nil))) pa_nil)) (pg_name (i := 4) sc_law_acts.nd rfl (by first | exact Or.inl rfl | exact Or.inr rfl))
  (pss_cons (ps_par3 (i := 5) (j := 6) (l := 7) (by rfl) sc_law_acts.nd rfl rfl rfl (by decide) (by decide) (by decide) rfl rfl rfl (pa_cons (C8.pe_c c_law_dip hr (by decide) rfl (pa_cons (pv 0) (pa_cons pe_int pa_nil))) (pa_cons (pe_cmpR op_gt (C8.pe_c c_law_dip hr (by decide) rfl (pa_cons (pv 0) (pa_cons pe_int pa_nil))) pe_int (nomark _)) (pa_cons (pe_cmpR op_gt (C8.pe_c c_law_dip hr (by decide) rfl (pa_cons (pv 0) (pa_cons pe_int pa_nil))) pe_int (nomark _)) pa_nil))) (by rfl))
  (pss_one (ps_if (PW.pt (pw_or (pt_cmpR op_lt (pv 5) pe_int (nomark _)) (pw_or1 (PW.pt (pw_and (pt_cmpR op_eq (pv 3) pe_int (nomark _)) (pw_and1 (pt_cmpR op_lt (pv 5) pe_int (nomark _))))))))
  (pss_cons (ps_set (i := 3) sc_law_acts.nd rfl (by first | exact Or.inl rfl | exact Or.inr rfl) (pe_op op_add (pv 3) pe_int))
  (pss_one (ps_expr (My.pe_bmK (K := K) rfl PySem.F.plainAttrs_list PySem.F.slot_list_append PySem.F.type_list_append mt_append (pv 2) (pa_cons (pe_tup (pa_cons pe_str (pa_cons (pv 6) (pa_cons (pv 7) pa_nil)))) pa_nil)))))
  (pss_one (ps_if (pt_cmpR op_lt (pv 5) pe_int (nomark _))
  (pss_one (ps_expr (My.pe_bmK (K := K) rfl PySem.F.plainAttrs_list PySem.F.slot_list_append PySem.F.type_list_append mt_append (pv 2) (pa_cons (pe_tup (pa_cons pe_str (pa_cons (pe_op op_add pe_int (C8.pe_c c_law_dip hr (by decide) rfl (pa_cons (pv 0) (pa_cons (pv 3) pa_nil)))) (pa_cons (pv 6) (pa_cons (pv 7) pa_nil))))) pa_nil))))
  (pss_one (ps_if (pt_cmpR op_eq (pv 5) pe_int (nomark _))
  (pss_one (ps_set (i := 2) sc_law_acts.nd rfl (by first | exact Or.inl rfl | exact Or.inr rfl) (pe_op op_cat (pv 2) (pe_op op_rep (pe_lst (pa_cons (pe_tup (pa_cons pe_str pa_nil)) pa_nil)) (C8.pe_c c_law_dip hr (by decide) rfl (pa_cons (pv 0) (pa_cons (pe_op op_add (pv 1) pe_int) pa_nil)))))))
  (pss_one (ps_expr (My.pe_bmK (K := K) rfl PySem.F.plainAttrs_list PySem.F.slot_list_append PySem.F.type_list_append mt_append (pv 2) (pa_cons (pe_ix (My.ix_listK (K := K) rfl) (pe_lst (pa_cons (pe_tup (pa_cons pe_str pa_nil)) (pa_cons (pe_tup (pa_cons pe_str pa_nil)) pa_nil))) (pe_op op_sub (pv 5) pe_int) (fun _ _ => rfl)) pa_nil))))))))))))
  (pss_one (ps_ret (pe_slice (My.sl_listK (K := K) rfl) (pv 2) po_none (po_some pe_int)))))))), ?_⟩
    refine ⟨Nat.zero_le _, fun D hD => ⟨_, _, rfl, ?_⟩⟩
    have yD := same_new (o := .lst []) hD
    have naD : a ≠ D := by
      obtain ⟨_, _, _, e, _⟩ := hs
      exact ne_of_none e hD
    have c0 : Fd K H a D [] [] n (upd H D (.lst [])) := ⟨But.of yD, hs.same yD, hD, naD, upd_same, .nil, Nat.zero_le _, fun i p t s e => by cases e⟩
    refine ⟨_, rfl, a, _, 16, rfl, c0.s, lt100 (by omega), by decide, by decide, fun H1 k b1 s1 k0 k1 => ⟨k, rfl, by omega, by omega, ?_⟩⟩
    have c1 := c0.draw b1 s1
    refine for_range (n := k.toNat) (fun i σ H' => ∃ (D : Addr) (us : List Addr) (ds : List Deed) (o4 o5 o6 o7 : Option V), σ = [some (.ref a), some (.int d), some (.ref D), some (.int (brs ds : Nat)), o4, o5, o6, o7] ∧ Fd K H a D us ds (n + 1 + 4 * i) H' ∧ ds.length ≤ 32 * i) ⟨D, [], [], _, _, _, _, rfl, c1, Nat.le_refl _⟩ ?_ ?_
    · rintro i σ H2 hi ⟨D, us, ds, o4, o5, o6, o7, rfl, c, hl⟩
      have hi16 : i < 16 := by omega
      refine ⟨_, rfl, a, _, 10, rfl, c.s, lt100 (by omega), by decide, by decide, fun H3 way b3 s3 w0 w1 => ?_⟩
      have c3 := c.draw b3 s3
      refine ⟨_, rfl, a, _, 3, rfl, s3, lt100 (by omega), by decide, by decide, fun H4 x b4 s4 x0 x1 => ⟨_, _, rfl, rfl, ?_⟩⟩
      have c4 := c3.draw b4 s4
      refine ⟨_, rfl, a, _, 3, rfl, s4, lt100 (by omega), by decide, by decide, fun H5 z b5 s5 z0 z1 => ⟨_, _, rfl, rfl, ?_⟩⟩
      have c5 := c4.draw b5 s5
      refine ⟨_, _, _, rfl, ?_⟩
      have li : ds.length ≤ 480 := by omega
      have brl : brs ds ≤ ds.length := List.countP_le_length
      have addB : ∀ (fst lat : Bool) (oi : Option V) (E : Ends), (∀ H6 t, Fd K H a D (us ++ [t]) (ds ++ [.bring fst lat]) (n + 1 + 4 * i + 1 + 1 + 1) H6 → E.nx [some (.ref a), some (.int d), some (.ref D), some (.int ((brs ds : Nat) + 1)), oi, some (.int way), some (.bl fst), some (.bl lat)] H6) →
          (tSeq (tAsg (tOp (rI0 fun i j => V.int (i + j)) (tVar 3) (tC (V.int 1))) (gName 3))
                  (tDrop
                    (tBM K "list" rAppend (tVar 2)
                      (tCons (tTup (tCons (tC (V.str (Str.ofString "bring"))) (tCons (tVar 6) (tCons (tVar 7) tNil))))
                        tNil)))) E [some (.ref a), some (.int d), some (.ref D), some (.int (brs ds : Nat)), oi, some (.int way), some (.bl fst), some (.bl lat)] H5 := by
        intro fst lat oi E qE
        refine ⟨_, rfl, _, _, rfl, rfl, _, rfl, .inl ⟨rfl, _, SqL.of c5.d⟩, _, rfl, _, rfl, by show 3 ≤ sizeLine; decide, fun t ht => ?_⟩
        have yt := same_new (o := .tup [.str "bring", .bl fst, .bl lat]) ht
        have c6 := c5.same yt
        refine ⟨D, _, _, rfl, rfl, c6.d, by rw [List.length_map, c6.D.len]; exact lt_line (by omega), ?_⟩
        exact qE _ t (c6.add (dd := .bring fst lat) (SqT.of upd_same) (fun _ _ _ z => by cases z) (by omega))
      have endB : ∀ (fst lat : Bool) (oi : Option V) (H6 : Hp) (t : Addr), Fd K H a D (us ++ [t]) (ds ++ [.bring fst lat]) (n + 1 + 4 * i + 1 + 1 + 1) H6 → ∃ (D2 : Addr) (us : List Addr) (ds2 : List Deed) (o4 o5 o6 o7 : Option V), [some (.ref a), some (.int d), some (.ref D), some (.int ((brs ds : Nat) + 1)), oi, some (.int way), some (.bl fst), some (.bl lat)] = [some (.ref a), some (.int d), some (.ref D2), some (V.int (brs ds2 : Nat)), o4, o5, o6, o7] ∧ Fd K H a D2 us ds2 (n + 1 + 4 * (i + 1)) H6 ∧ ds2.length ≤ 32 * (i + 1) := by
        intro fst lat oi H6 t c6
        have e : ((brs (ds ++ [.bring fst lat]) : Nat) : Int) = (brs ds : Nat) + 1 := by rw [brs_one]; rfl
        refine ⟨D, _, ds ++ [.bring fst lat], oi, some (.int way), some (.bl fst), some (.bl lat), by rw [e], c6.more (by omega), ?_⟩
        rw [List.length_append]
        show ds.length + 1 ≤ _
        omega
      have endN : ∀ (fst lat : Bool) (oi : Option V) (H6 : Hp) (D2 : Addr) (us2 : List Addr) (ds2 : List Deed), Fd K H a D2 us2 ds2 (n + 1 + 4 * i + 1 + 1 + 1 + 1) H6 → brs ds2 = brs ds → ds2.length ≤ ds.length + 32 → ∃ (D : Addr) (us : List Addr) (ds2 : List Deed) (o4 o5 o6 o7 : Option V), [some (.ref a), some (.int d), some (.ref D2), some (.int (brs ds : Nat)), oi, some (.int way), some (.bl fst), some (.bl lat)] = [some (.ref a), some (.int d), some (.ref D), some (V.int (brs ds2 : Nat)), o4, o5, o6, o7] ∧ Fd K H a D us ds2 (n + 1 + 4 * (i + 1)) H6 ∧ ds2.length ≤ 32 * (i + 1) := by
        intro fst lat oi H6 D2 us2 ds2 c6 eb el
        exact ⟨D2, us2, ds2, oi, some (.int way), some (.bl fst), some (.bl lat), by rw [eb], c6.more (by omega), by omega⟩
      have codeC : ∀ (fst lat : Bool) (oi : Option V) (E : Ends), brs ds ≠ 0 → (∀ H6 us2 ds2, Fd K H a D us2 ds2 (n + 1 + 4 * i + 1 + 1 + 1 + 1) H6 → brs ds2 = brs ds → ds2.length ≤ ds.length + 32 → E.nx [some (.ref a), some (.int d), some (.ref D), some (.int (brs ds : Nat)), oi, some (.int way), some (.bl fst), some (.bl lat)] H6) →
          (tDrop
                    (tBM K "list" rAppend (tVar 2)
                      (tCons
                        (tTup
                          (tCons (tC (V.str (Str.ofString "code")))
                            (tCons
                              (tOp (rI0 fun i j => V.int (i + j)) (tC (V.int 1))
                                (tCall (sp_law_dip K) [] C8.E0 (tCons (tVar 0) (tCons (tVar 3) tNil))))
                              (tCons (tVar 6) (tCons (tVar 7) tNil)))))
                        tNil))) E [some (.ref a), some (.int d), some (.ref D), some (.int (brs ds : Nat)), oi, some (.int way), some (.bl fst), some (.bl lat)] H5 := by
        intro fst lat oi E nz qE
        refine ⟨_, rfl, .inl ⟨rfl, _, SqL.of c5.d⟩, _, rfl, _, rfl, a, _, (brs ds : Nat), rfl, c5.s, lt100 (by omega), by omega, Int.lt_of_le_of_lt (show ((brs ds : Nat) : Int) ≤ 480 by omega) (by decide), fun H6 r b6 s6 r0 r1 => ⟨_, _, rfl, rfl, _, rfl, _, rfl, by show 4 ≤ sizeLine; decide, fun t ht => ?_⟩⟩
        have c6 := c5.draw b6 s6
        have yt := same_new (o := .tup [.str "code", .int (1 + r), .bl fst, .bl lat]) ht
        have c7 := c6.same yt
        refine ⟨D, _, _, rfl, rfl, c7.d, by rw [List.length_map, c7.D.len]; exact lt_line (by omega), ?_⟩
        refine qE _ (us ++ [t]) (ds ++ [.code (1 + r) fst lat]) (c7.add (dd := .code (1 + r) fst lat) (SqT.of upd_same) (fun _ _ _ z => by cases z; omega) (by omega)) (by rw [brs_one]; rfl) ?_
        rw [List.length_append]
        show ds.length + 1 ≤ _
        omega
      have dayC : ∀ (fst lat : Bool) (oi : Option V) (E : Ends), (∀ H6 D2 us2 ds2, Fd K H a D2 us2 ds2 (n + 1 + 4 * i + 1 + 1 + 1 + 1) H6 → brs ds2 = brs ds → ds2.length ≤ ds.length + 32 → E.nx [some (.ref a), some (.int d), some (.ref D2), some (.int (brs ds : Nat)), oi, some (.int way), some (.bl fst), some (.bl lat)] H6) →
          (tAsg
                      (tOp rCat (tVar 2)
                        (tOp rRep (tLst (tCons (tTup (tCons (tC (V.str (Str.ofString "day"))) tNil)) tNil))
                          (tCall (sp_law_dip K) [] C8.E0
                            (tCons (tVar 0) (tCons (tOp (rI0 fun i j => V.int (i + j)) (tVar 1) (tC (V.int 2))) tNil)))))
                      (gName 2)) E [some (.ref a), some (.int d), some (.ref D), some (.int (brs ds : Nat)), oi, some (.int way), some (.bl fst), some (.bl lat)] H5 := by
        intro fst lat oi E qE
        refine ⟨_, rfl, by show 1 ≤ sizeLine; decide, fun t ht => ⟨by show 1 ≤ sizeLine; decide, fun l hl => ?_⟩⟩
        have yt := same_new (o := .tup [.str "day"]) ht
        have yl := same_new (o := .lst [.ref t]) hl
        have c6 := (c5.same yt).same yl
        have ht6 : SqT K (upd (upd H5 t (.tup [.str "day"])) l (.lst [.ref t])) t [.str "day"] := SqT.of (yl _ _ upd_same)
        have hl6 : upd (upd H5 t (.tup [.str "day"])) l (.lst [.ref t]) l = some (.lst [.ref t]) := upd_same
        refine ⟨_, rfl, _, rfl, _, _, rfl, rfl, a, _, d + 2, rfl, c6.s, lt100 (by omega), by omega, Int.lt_of_le_of_lt (show d + 2 ≤ 32 by omega) (by decide), fun H6 r b6 s6 r0 r1 => ?_⟩
        have c7 := c6.draw b6 s6
        have hl7 := rawS b6 c6.s hl6 (fun _ _ z => by cases z)
        have ht7 := But.tupS b6 c6.s ht6
        obtain ⟨m, rfl⟩ : ∃ m : Nat, r = (m : Int) := ⟨r.toNat, by omega⟩
        have hm : m ≤ 31 := by omega
        refine ⟨l, m, _, rfl, rfl, hl7, by omega, by omega, by show 1 * (m : Int).toNat ≤ sizeLine; exact Nat.le_trans (show _ ≤ 31 by omega) (by decide), fun p hp => ?_⟩
        have ef : (List.replicate (m : Int).toNat [V.ref t]).flatten = (List.replicate m t).map V.ref := by rw [Int.toNat_natCast, flat_one, List.map_replicate]
        rw [ef]
        have yp := same_new (o := .lst ((List.replicate m t).map V.ref)) hp
        have c8 := c7.same yp
        have ht8 := same_tup yp ht7
        have hp8 : upd H6 p (.lst ((List.replicate m t).map V.ref)) p = some (.lst ((List.replicate m t).map V.ref)) := upd_same
        refine ⟨D, p, _, _, rfl, rfl, c8.d, hp8, by rw [List.length_map, List.length_map, List.length_replicate, c8.D.len]; exact Nat.le_of_lt (lt_line (by omega)), fun D2 hD2 => ?_⟩
        have y2 := same_new (o := .lst (us.map V.ref ++ (List.replicate m t).map V.ref)) hD2
        have c9 := c8.same y2
        obtain ⟨p1, p2⟩ := play_days c5.p m (by omega)
        have na2 : a ≠ D2 := by
          obtain ⟨_, _, _, e, _⟩ := c8.s
          exact ne_of_none e hD2
        refine qE _ D2 (us ++ List.replicate m t) (ds ++ List.replicate m .day) ⟨c9.b, c9.s, c8.b.none (by simpa using na2.symm) hD2, na2, by rw [upd_same, List.map_append], ?_, p1⟩ p2 (by rw [List.length_append, List.length_replicate]; omega)
        exact deeds_app c9.D (deeds_rep ⟨t, rfl, same_tup y2 ht8⟩ m)
      have elseC : ∀ (fst lat : Bool) (oi : Option V) (E : Ends), (way = 8 ∨ way = 9) → (∀ H6 us2 ds2, Fd K H a D us2 ds2 (n + 1 + 4 * i + 1 + 1 + 1 + 1) H6 → brs ds2 = brs ds → ds2.length ≤ ds.length + 32 → E.nx [some (.ref a), some (.int d), some (.ref D), some (.int (brs ds : Nat)), oi, some (.int way), some (.bl fst), some (.bl lat)] H6) →
          (tDrop
                      (tBM K "list" rAppend (tVar 2)
                        (tCons
                          (tOp (rIxL K)
                            (tLst
                              (tCons (tTup (tCons (tC (V.str (Str.ofString "pass"))) tNil))
                                (tCons (tTup (tCons (tC (V.str (Str.ofString "power"))) tNil)) tNil)))
                            (tOp (rI0 fun i j => V.int (i - j)) (tVar 5) (tC (V.int 8))))
                          tNil))) E [some (.ref a), some (.int d), some (.ref D), some (.int (brs ds : Nat)), oi, some (.int way), some (.bl fst), some (.bl lat)] H5 := by
        intro fst lat oi E w8 qE
        refine ⟨_, rfl, .inl ⟨rfl, _, SqL.of c5.d⟩, by show 1 ≤ sizeLine; decide, fun t1 ht1 => ⟨by show 1 ≤ sizeLine; decide, fun t2 ht2 => ⟨by show 2 ≤ sizeLine; decide, fun l hl => ?_⟩⟩⟩
        have y1 := same_new (o := .tup [.str "pass"]) ht1
        have y2 := same_new (o := .tup [.str "power"]) ht2
        have yl := same_new (o := .lst [.ref t1, .ref t2]) hl
        have c8 := (((c5.same y1).same y2).same yl).more (show n + 1 + 4 * i + 1 + 1 + 1 ≤ n + 1 + 4 * i + 1 + 1 + 1 + 1 by omega)
        have h1 : SqT K (upd (upd (upd H5 t1 (.tup [.str "pass"])) t2 (.tup [.str "power"])) l (.lst [.ref t1, .ref t2])) t1 [.str "pass"] := SqT.of (yl _ _ (y2 _ _ upd_same))
        have h2 : SqT K (upd (upd (upd H5 t1 (.tup [.str "pass"])) t2 (.tup [.str "power"])) l (.lst [.ref t1, .ref t2])) t2 [.str "power"] := SqT.of (yl _ _ upd_same)
        rcases w8 with rfl | rfl
        · refine ⟨_, rfl, _, _, rfl, rfl, l, _, 0, .ref t1, rfl, rfl, SqL.of upd_same, atI_nat (j := 0) rfl, D, _, _, rfl, rfl, c8.d, by rw [List.length_map, c8.D.len]; exact lt_line (by omega), ?_⟩
          refine qE _ (us ++ [t1]) (ds ++ [.pass]) (c8.add (dd := .pass) h1 (fun _ _ _ z => by cases z) (by omega)) (by rw [brs_one]; rfl) ?_
          rw [List.length_append]
          show ds.length + 1 ≤ _
          omega
        · refine ⟨_, rfl, _, _, rfl, rfl, l, _, 1, .ref t2, rfl, rfl, SqL.of upd_same, atI_nat (j := 1) rfl, D, _, _, rfl, rfl, c8.d, by rw [List.length_map, c8.D.len]; exact lt_line (by omega), ?_⟩
          refine qE _ (us ++ [t2]) (ds ++ [.power]) (c8.add (dd := .power) h2 (fun _ _ _ z => by cases z) (by omega)) (by rw [brs_one]; rfl) ?_
          rw [List.length_append]
          show ds.length + 1 ≤ _
          omega
      refine ⟨_, rfl, _, _, rfl, rfl, _, rfl, L2.ite2 (fun c4 => ?_) (fun c4 => ?_)⟩
      · refine L2.iteT (addB _ _ _ _ ?_); exact fun H6 t c6 => (by
          obtain ⟨D3, us3, ds3, p4, p5, p6, p7, e, f, l⟩ := endB (decide (0 < x)) (decide (0 < z)) (some (.int (0 + (i : Int)))) H6 t c6
          exact ⟨D3, us3, ds3, p4, p5, p6, p7, e, f, l⟩)
      refine ⟨_, rfl, rfl, _, rfl, L2.ite2 (fun m0 => ?_) (fun m0 => ?_)⟩
      · refine ⟨_, rfl, _, _, rfl, rfl, _, rfl, L2.ite2 (fun c7 => ?_) (fun c7 => ?_)⟩
        · refine addB _ _ _ _ ?_; exact fun H6 t c6 => (by
          obtain ⟨D3, us3, ds3, p4, p5, p6, p7, e, f, l⟩ := endB (decide (0 < x)) (decide (0 < z)) (some (.int (0 + (i : Int)))) H6 t c6
          exact ⟨D3, us3, ds3, p4, p5, p6, p7, e, f, l⟩)
        · refine ⟨_, rfl, _, _, rfl, rfl, _, rfl, L2.ite2 (fun d7 => absurd d7 c7) (fun d7 => ?_)⟩
          refine ⟨_, rfl, rfl, _, rfl, L2.ite2 (fun e7 => ?_) (fun e7 => ?_)⟩
          · refine dayC _ _ _ _ ?_; exact fun H6 D2 us2 ds2 c6 eb el => endN _ _ _ H6 D2 us2 ds2 c6 eb el
          · have f1 : ¬ way < 7 := fun z => d7 (decide_eq_true z)
            have f2 : way ≠ 7 := fun z => e7 (decide_eq_true (by rw [z]))
            refine elseC _ _ _ _ (by omega) ?_
            exact fun H6 us2 ds2 c6 eb el => endN _ _ _ H6 D us2 ds2 c6 eb el
      · have nz : brs ds ≠ 0 := fun z => m0 (decide_eq_true (by rw [z]; rfl))
        refine ⟨_, rfl, _, _, rfl, rfl, _, rfl, L2.ite2 (fun d7 => ?_) (fun d7 => ?_)⟩
        · refine codeC _ _ _ _ nz ?_; exact fun H6 us2 ds2 c6 eb el => endN _ _ _ H6 D us2 ds2 c6 eb el
        · refine ⟨_, rfl, rfl, _, rfl, L2.ite2 (fun e7 => ?_) (fun e7 => ?_)⟩
          · refine dayC _ _ _ _ ?_; exact fun H6 D2 us2 ds2 c6 eb el => endN _ _ _ H6 D2 us2 ds2 c6 eb el
          · have f1 : ¬ way < 7 := fun z => d7 (decide_eq_true z)
            have f2 : way ≠ 7 := fun z => e7 (decide_eq_true (by rw [z]))
            refine elseC _ _ _ _ (by omega) ?_
            exact fun H6 us2 ds2 c6 eb el => endN _ _ _ H6 D us2 ds2 c6 eb el
    rintro σ H2 ⟨D, us, ds, o4, o5, o6, o7, rfl, c, hl⟩
    refine ⟨_, rfl, 40, rfl, D, _, rfl, SqL.of c.d, fun t ht => ?_⟩
    have ec : cutV (us.map V.ref) none (some (40 : Int)) = (us.take 40).map V.ref := by rw [List.map_take]; exact cut_to (c := 40)
    rw [ec]
    have yt := same_new (o := .lst ((us.take 40).map V.ref)) ht
    have c2 := c.same yt
    have hp := play_take c.p 40
    refine q _ t (us.take 40) (ds.take 40) c2.b (c2.s.mono (by omega)) ?_ upd_same ?_ hp.ok hp (by rw [List.length_take]; exact Nat.min_le_left ..)
    · refine c.b.none ?_ ht
      intro z
      obtain ⟨_, _, _, e9, _⟩ := c.s
      rw [List.mem_singleton.mp z, e9] at ht
      cases ht
    · have h := paired_take 40 c2.D
      rw [← List.map_take] at h
      exact h
theorem c_law_acts (T : Txt w K mg) : C8.Cal P w K mg base 2 "_law_acts" (sp_law_acts K) [] := by
  obtain ⟨fd, F⟩ := T.f_law_acts
  exact ⟨_, fd, _, _, ok_law_acts T F, T.g_law_acts, F.kp, F.bindsN (fun _ _ _ _ _ _ us hl => match us, hl with | [_, _], _ => rfl), .nil⟩
end
end K15

namespace K15
open PySem PySem.Spec PyProof.Rows L2 My StX
theorem fold_in (r : RuleL) (x : BoxS × ToldS) : (r.foldl act x).1.inside = x.1.inside := (fold_keeps r x).1
/-! ### the age and the last parcel are told together -/
def la (S : BoxS) : Option Int × Option Int := (S.age, S.last)
theorem la_fold (r : RuleL) (x : BoxS × ToldS) : la (r.foldl act x).1 = la x.1 := by
  obtain ⟨_, h2, h3⟩ := fold_keeps r x
  unfold la
  rw [h2, h3]
theorem la_carry (r : RuleL) (m : Str) (x : BoxS × ToldS) : la (carry r m x).1 = la x.1 := la_fold r _
theorem la_go (sh : Bool) (m1 m2 : Str) (r1 r2 : RuleL) (x : BoxS × ToldS) : la (goAway sh m1 m2 r1 r2 x).1 = la x.1 := by
  unfold goAway
  split
  · split
    · exact la_carry _ _ _
    · exact la_carry _ _ _
  · rfl
theorem la_lay (p : Int) (l : Bool) (x : BoxS × ToldS) : la (layIn p l x).1 = la x.1 := by
  unfold layIn
  split <;> rfl
theorem la_takeIf (p : Int) (t : Bool) (x : BoxS × ToldS) : la (takeIf p t x).1 = la x.1 := by
  unfold takeIf
  split <;> rfl
theorem la_addW (c : Bool) (w : Str) (x : BoxS × ToldS) : la (addW c w x).1 = la x.1 := by
  unfold addW
  split <;> rfl
def LaOk (m : Nat) (o : Option Int × Option Int) : Prop := o.1.isSome = o.2.isSome ∧ ∀ a, o.1 = some a → 0 ≤ a ∧ a ≤ (m : Int)
theorem LaOk.mono {m : Nat} {o : Option Int × Option Int} (h : LaOk m o) : LaOk (m + 1) o := ⟨h.1, fun a e => by have := h.2 a e; omega⟩
theorem la_do {rs : List RuleL} {d n : Int} {x : Deed} {S : BoxS} {m : Nat} (h : LaOk m (la S)) : LaOk (m + 1) (la (doF rs d n x S).1) := by
  cases x with
  | bring l s =>
    show LaOk (m + 1) (la (bringF rs n l s S).1)
    unfold bringF
    split
    · rw [la_go, la_lay, la_carry]
      exact ⟨rfl, fun a e => by cases e; omega⟩
    · exact h.mono
  | code p t s =>
    show LaOk (m + 1) (la (codeF rs p t s S).1)
    unfold codeF
    split
    · rw [la_go, la_addW, la_takeIf, la_carry]
      exact h.mono
    · rw [la_addW]
      exact h.mono
  | pass =>
    show LaOk (m + 1) (la (passBy S).1)
    unfold passBy
    split
    · exact h.mono
    · exact h.mono
  | day =>
    show LaOk (m + 1) (la (dayF d rs S).1)
    unfold dayF
    cases e : S.age with
    | none => exact h.mono
    | some a =>
      have h2 := h.2 a e
      have h1 : (some a).isSome = S.last.isSome := by rw [← e]; exact h.1
      have g : LaOk (m + 1) (some (a + 1), S.last) := ⟨h1, fun b eb => by cases eb; omega⟩
      show LaOk (m + 1) (la (if a + 1 = d then carry (at_ rs 6) "late" ({ S with age := some (a + 1) }, T0) else ({ S with age := some (a + 1) }, T0)).1)
      split
      · rw [la_carry]
        exact g
      · exact g
  | power =>
    show LaOk (m + 1) (la (powerF rs S).1)
    unfold powerF
    rw [la_carry]
    exact h.mono
theorem la_run (rs : List RuleL) (d : Int) (ds : List Deed) : ∀ i : Nat, i ≤ ds.length → LaOk i (la (runF rs d (ds.take i)).2.1) := by
  intro i
  induction i with
  | zero => intro _; exact ⟨rfl, fun a e => by cases e⟩
  | succ i ih =>
    intro hi
    rw [runF_more (List.getElem?_eq_getElem (show i < ds.length by omega))]
    exact la_do (ih (by omega))
theorem run_cnt (rs : List RuleL) (d : Int) (ds : List Deed) : ∀ i : Nat, i ≤ ds.length → (runF rs d (ds.take i)).1 = ((brs (ds.take i) : Nat) : Int) := by
  intro i
  induction i with
  | zero => intro _; rfl
  | succ i ih =>
    intro hi
    have e := List.getElem?_eq_getElem (show i < ds.length by omega)
    rw [runF_more e]
    have i2 := ih (by omega)
    rw [take_more e]
    show (if isBr ds[i] = true then (runF rs d (ds.take i)).1 + 1 else (runF rs d (ds.take i)).1) = _
    rw [brs_one, i2]
    cases h : isBr ds[i] with
    | true => exact (if_pos rfl).trans rfl
    | false => exact (if_neg (by decide)).trans rfl
theorem ne_hd {α : Type} {a c : α} {l : List α} (h : c ∉ a :: l) : c ≠ a := fun z => h (by rw [z]; exact List.mem_cons_self ..)
theorem int_box {l : List Int} {a : Bool} {r : List V} (h : some (HO.lst (.bl a :: r)) = some (HO.lst (l.map V.int))) : False := by
  cases l with
  | nil => cases h
  | cons y l => cases h
end K15

namespace K15
open PySem PySem.Spec PyProof.Rows L2 My
/-! ### reports as data, and how long their lists are -/
def repD (U : ToldS) : PyData := .tuple [.list (U.letters.map PyData.int), .bool U.opened, .list (U.got.map PyData.int)]
theorem sm_rep (U : ToldS) : Sm 2 (repD U) := sm_tuple fun d hd => by
  simp only [List.mem_cons, List.not_mem_nil, or_false] at hd
  rcases hd with rfl | rfl | rfl
  · exact sm_ints _
  · exact (sm_bool _).mono (by decide)
  · exact sm_ints _
theorem sm_reps (Us : List ToldS) : Sm 3 (.list (Us.map repD)) := sm_list fun d hd => by
  obtain ⟨i, _, rfl⟩ := List.mem_map.mp hd
  exact sm_rep i
theorem dp_it {K : PySem.W.Frag} {H : Hp} {z : Addr × Addr × Addr} {U : ToldS} (h : ItAt H z U) : Dp K H (.ref z.1) (repD U) := by
  obtain ⟨h1, h2, h3⟩ := h
  exact .tup (SqT.of h1) (.cons (.lst (SqL.of h2) (dp_flatInts K H _)) (.cons (.bl _) (.cons (.lst (SqL.of h3) (dp_flatInts K H _)) .nil)))
theorem dp_its {K : PySem.W.Frag} {H : Hp} : ∀ {rs : List (Addr × Addr × Addr)} {Us : List ToldS}, Paired (ItAt H) rs Us → DpAll K H (rs.map fun z => V.ref z.1) (Us.map repD)
  | _, _, .nil => .nil
  | _, _, .cons r t => .cons (dp_it r) (dp_its t)
/-- a list of reports, however it is made -/
def DueAt (H : Hp) (u : Addr) (Us : List ToldS) : Prop := ∃ rs : List (Addr × Addr × Addr), H u = some (.lst (rs.map fun z => V.ref z.1)) ∧ Paired (ItAt H) rs Us
theorem DueAt.dp {K : PySem.W.Frag} {H : Hp} {u : Addr} {Us : List ToldS} (h : DueAt H u Us) : Dp K H (.ref u) (.list (Us.map repD)) := by
  obtain ⟨rs, h1, h2⟩ := h
  exact .lst (SqL.of h1) (dp_its h2)
theorem ItAt.same {H H' : Hp} {z : Addr × Addr × Addr} {U : ToldS} (s : Same H H') (h : ItAt H z U) : ItAt H' z U := ⟨s _ _ h.1, s _ _ h.2.1, s _ _ h.2.2⟩
theorem DueAt.same {H H' : Hp} {u : Addr} {Us : List ToldS} (s : Same H H') (h : DueAt H u Us) : DueAt H' u Us := by
  obtain ⟨rs, h1, h2⟩ := h
  exact ⟨rs, s _ _ h1, paired_map (fun z U _ hz => hz.same s) h2⟩
theorem RepAt.due {H0 H : Hp} {p : Addr} {Us : List ToldS} (h : RepAt H0 H p Us) : DueAt H p Us := by
  obtain ⟨rs, h1, h2, _⟩ := h
  exact ⟨rs, h1, h2⟩
theorem got_le {rs : List RuleL} {d k : Int} {x : Deed} {S : BoxS} : (doF rs d k x S).2.got.length ≤ S.inside.length := by
  cases x with
  | bring l sh =>
    show (bringF rs k l sh S).2.got.length ≤ _
    by_cases hf : S.tf = "free"
    · by_cases h : l = true ∧ ((at_ rs 0).foldl act (({ S with ajar := true, age := some 0, last := some k } : BoxS), T0)).1.ajar = true
      · obtain ⟨h1, h2⟩ := h
        subst h1
        rw [(bring_lay (rb := rs) (sh := sh) hf h2).2.2.1]
        exact Nat.zero_le _
      · rw [(bring_no (rb := rs) (sh := sh) hf h).2.2.1]
        exact Nat.zero_le _
    · unfold bringF
      rw [if_neg hf]
      exact Nat.zero_le _
  | code p tk sh =>
    show (codeF rs p tk sh S).2.got.length ≤ _
    by_cases hv : p ∈ S.valid
    · by_cases h : tk = true ∧ ((at_ rs 3).foldl act (({ S with ajar := true } : BoxS), T0)).1.ajar = true
      · obtain ⟨h1, h2⟩ := h
        subst h1
        obtain ⟨sv, _, _, e, _⟩ := code_tk (rb := rs) (sh := sh) hv h2
        rw [e, (fold_keeps (at_ rs 3) _).1]
        exact Nat.le_refl _
      · rw [(code_no (rb := rs) (sh := sh) hv h).2.2.1]
        exact Nat.zero_le _
    · unfold codeF
      rw [if_neg hv, (addW_T _ _ _).2.2.1]
      exact Nat.zero_le _
  | pass =>
    show (passBy S).2.got.length ≤ _
    unfold passBy
    split
    · exact Nat.le_refl _
    · exact Nat.zero_le _
  | day =>
    show (dayF d rs S).2.got.length ≤ _
    unfold dayF
    split
    · exact Nat.zero_le _
    · split
      · rw [(carry_T _ _ _ _).2]; exact Nat.zero_le _
      · exact Nat.zero_le _
  | power =>
    have e := (carry_T (at_ rs 7) "power" S T0).2
    have e2 : (doF rs d k .power S).2 = _ := e
    rw [e2]
    exact Nat.zero_le _
theorem reps_le {rs : List RuleL} {d : Int} (hg : GoodB rs) (ds : List Deed) : ∀ i : Nat, i ≤ ds.length → ∀ U ∈ (runF rs d (ds.take i)).2.2, U.letters.length ≤ 16 * i ∧ U.got.length ≤ 16 * i := by
  intro i
  induction i with
  | zero => intro _ U hU; cases hU
  | succ i ih =>
    intro hi U hU
    have e := List.getElem?_eq_getElem (show i < ds.length by omega)
    rw [runF_more e] at hU
    have b := runF_bd (d := d) hg ds i (by omega)
    unfold stepF at hU
    rcases List.mem_append.mp hU with z | z
    · have := ih (by omega) U z
      omega
    · rw [List.mem_singleton.mp z]
      have b2 := b.doF (d := d) (k := (if isBr ds[i] = true then (runF rs d (ds.take i)).1 + 1 else (runF rs d (ds.take i)).1)) (x := ds[i]) hg
      exact ⟨Nat.le_trans b2.l (by omega), Nat.le_trans got_le (Nat.le_trans b.i (by omega))⟩
theorem sz_reps {rs : List RuleL} {d : Int} {ds : List Deed} (hg : GoodB rs) (hl : ds.length ≤ 40) (n : Nat) : Sized (n + 4) (.list ((runF rs d ds).2.2.map repD)) := by
  refine ⟨by rw [List.length_map, runF_len]; omega, fun e he => ?_⟩
  obtain ⟨U, hU, rfl⟩ := List.mem_map.mp he
  have h := reps_le (d := d) hg ds ds.length (Nat.le_refl _) U (by rw [List.take_length]; exact hU)
  refine ⟨by show 3 ≤ 100000; decide, fun x hx => ?_⟩
  simp only [List.mem_cons, List.not_mem_nil, or_false] at hx
  rcases hx with rfl | rfl | rfl
  · exact ⟨by rw [List.length_map]; omega, fun y hy => by obtain ⟨z, _, rfl⟩ := List.mem_map.mp hy; exact trivial⟩
  · exact trivial
  · exact ⟨by rw [List.length_map]; omega, fun y hy => by obtain ⟨z, _, rfl⟩ := List.mem_map.mp hy; exact trivial⟩
def oD : Option Int → PyData
  | some i => .int i
  | none => .none
def stdD (S : BoxS) (ys : List Int) : PyData := .tuple [.bool S.ajar, .list (S.inside.map PyData.int), .str S.tf, .list (ys.map PyData.int), oD S.age]
theorem dp_o {K : PySem.W.Frag} {H : Hp} (o : Option Int) : Dp K H (oV o) (oD o) := by
  cases o with
  | none => exact .non
  | some i => exact .int i
theorem dp_std {K : PySem.W.Frag} {H : Hp} {p l1 l2 : Addr} {S : BoxS} {ys : List Int} (h : H p = some (.tup [.bl S.ajar, .ref l1, .str S.tf, .ref l2, oV S.age])) (h1 : H l1 = some (.lst (S.inside.map V.int))) (h2 : H l2 = some (.lst (ys.map V.int))) : Dp K H (.ref p) (stdD S ys) :=
  .tup (SqT.of h) (.cons (.bl _) (.cons (.lst (SqL.of h1) (dp_flatInts K H _)) (.cons (.str _) (.cons (.lst (SqL.of h2) (dp_flatInts K H _)) (.cons (dp_o _) .nil)))))
theorem sz_std {S : BoxS} {ys : List Int} (h1 : S.inside.length ≤ 100000) (h2 : ys.length ≤ 100000) (n : Nat) : Sized (n + 3) (stdD S ys) := by
  refine ⟨by show 5 ≤ 100000; decide, fun x hx => ?_⟩
  simp only [List.mem_cons, List.not_mem_nil, or_false] at hx
  rcases hx with rfl | rfl | rfl | rfl | rfl
  · exact trivial
  · exact ⟨by rw [List.length_map]; exact h1, fun y hy => by obtain ⟨z, _, rfl⟩ := List.mem_map.mp hy; exact trivial⟩
  · exact trivial
  · exact ⟨by rw [List.length_map]; exact h2, fun y hy => by obtain ⟨z, _, rfl⟩ := List.mem_map.mp hy; exact trivial⟩
  · cases S.age <;> exact trivial
end K15

namespace K15
open PySem PySem.Spec PyProof.Rows L2 My StX
section
variable {P : Program} {w : World} {K : PySem.W.Frag} {mg : Str → Option Value} {base : Heap}
theorem ki_play (T : Txt w K mg) : My.CalKI P w K mg base 8 "play" (sp_play K) "book" "deeds" := by
  obtain ⟨fd, F⟩ := T.f_play
  exact ⟨_, fd, ok_play T F, T.g_play, F.kp, My.kwi_of F (fun _ _ _ _ _ _ _ _ => rfl)⟩
theorem ki_boxes (T : Txt w K mg) : My.CalKI P w K mg base 8 "boxes" (sp_boxes K) "book" "deeds" := by
  obtain ⟨fd, F⟩ := T.f_boxes
  exact ⟨_, fd, ok_boxes T F, T.g_boxes, F.kp, My.kwi_of F (fun _ _ _ _ _ _ _ _ => rfl)⟩
theorem sz_rules {rs : List RuleL} (hg : GoodB rs) (n : Nat) : Sized (n + 3) (rulesD rs) := ⟨by rw [List.length_map, hg.len]; decide, fun e he => by
  obtain ⟨r, hr, rfl⟩ := List.mem_map.mp he
  refine ⟨by rw [List.length_map]; exact Nat.le_trans (hg.good r hr).1 (by decide), fun x hx => ?_⟩
  obtain ⟨z, _, rfl⟩ := List.mem_map.mp hx
  exact trivial⟩
theorem usual_good {rs : List RuleL} (hg : GoodB rs) : GoodB (["void", "full"] :: ["look", "code"] :: ["lock", "look", "code"] :: rs.drop 3) := by
  refine ⟨by show (rs.drop 3).length + 3 = 8; rw [List.length_drop, hg.len], fun r hr => ?_⟩
  have h1 : ∀ x ∈ (["void", "full", "look", "code", "lock"] : List Str), x ∈ acts := by decide +kernel
  rcases List.mem_cons.mp hr with z | hr
  · rw [z]; exact ⟨by decide, fun x hx => h1 x (by simp only [List.mem_cons, List.not_mem_nil, or_false] at hx ⊢; rcases hx with z | z <;> simp [z])⟩
  · rcases List.mem_cons.mp hr with z | hr
    · rw [z]; exact ⟨by decide, fun x hx => h1 x (by simp only [List.mem_cons, List.not_mem_nil, or_false] at hx ⊢; rcases hx with z | z <;> simp [z])⟩
    · rcases List.mem_cons.mp hr with z | hr
      · rw [z]; exact ⟨by decide, fun x hx => h1 x (by simp only [List.mem_cons, List.not_mem_nil, or_false] at hx ⊢; rcases hx with z | z | z <;> simp [z])⟩
      · exact hg.good r (List.mem_of_mem_drop hr)
def sp_law_right (K : PySem.W.Frag) : Sp := fun vs H Q _ => ∃ (a : Addr) (n : Nat), vs = [.ref a] ∧ SpringAt H a n ∧ n ≤ 10 ∧ ∀ H', But [a] H H' → Q (.bl true) H'
set_option maxHeartbeats 2000000 in
theorem ok_law_right (T : Txt w K mg) {fd : FuncData} (F : FunD K d_law_right.name d_law_right.qual d_law_right.params d_law_right.body d_law_right.scope (d_law_right.dvs K) (d_law_right.kws K) (He.fAd K d_law_right.at_) fd) : FnOk P w K mg base C8.CX0 9 (He.fAd K d_law_right.at_) fd ["pot"] (sp_law_right K) := by
  have c_law_alike := c_law_alike (P := P) (w := w) (base := base) T
  have c_read_deeds := c_read_deeds (P := P) (w := w) (base := base) T
  have c_boxes := c_boxes (P := P) (w := w) (base := base) T
  have c_play := c_play (P := P) (w := w) (base := base) T
  have c_law_report := c_law_report (P := P) (w := w) (base := base) T
  have c_deeds_text := c_deeds_text (P := P) (w := w) (base := base) T
  have c_law_deed_line := c_law_deed_line (P := P) (w := w) (base := base) T
  have c_law_acts := c_law_acts (P := P) (w := w) (base := base) T
  have c_book_text := c_book_text (P := P) (w := w) (base := base) T
  have c_Book_rules := c_Book_rules (P := P) (w := w) (base := base) T
  have c_Book_days := c_Book_days (P := P) (w := w) (base := base) T
  have c_read_book := c_read_book (P := P) (w := w) (base := base) T
  have c_law_lines := c_law_lines (P := P) (w := w) (base := base) T
  have c_law_made := c_law_made (P := P) (w := w) (base := base) T
  have c_law_dip := c_law_dip (P := P) (w := w) (base := base) T
  have c_law_plan := c_law_plan (P := P) (w := w) (base := base) T
  refine F.ok sc_law_right (fun vs H Q E h => ?_) (fun cdv A outer s H vs Q E hr h => ?_)
  · obtain ⟨a, n, rfl, _⟩ := h
    rfl
  · have hu := L2.hu_of hr
    obtain ⟨a, n, rfl, hs, hn, q⟩ := h
    refine ⟨_, (PSs.nox ((pss_cons (ps_set (i := 1) sc_law_right.nd rfl (by first | exact Or.inl rfl | exact Or.inr rfl) (C8.pe_c c_law_plan hr (by decide) rfl (pa_cons (pv 0) pa_nil)))
  (pss_cons (ps_if (pt_cmpR op_eq (C8.pe_c c_law_dip hr (by decide) rfl (pa_cons (pv 0) (pa_cons pe_int pa_nil))) pe_int (nomark _))
  (pss_cons (ps_set (i := 2) sc_law_right.nd rfl (by first | exact Or.inl rfl | exact Or.inr rfl) (pe_tup (pa_cons (pe_tup (pa_cons pe_str (pa_cons pe_str pa_nil))) (pa_cons (pe_tup (pa_cons pe_str (pa_cons pe_str pa_nil))) (pa_cons (pe_tup (pa_cons pe_str (pa_cons pe_str (pa_cons pe_str pa_nil)))) pa_nil)))))
  (pss_one (ps_set (i := 1) sc_law_right.nd rfl (by first | exact Or.inl rfl | exact Or.inr rfl) (pe_tup (pa_cons (pe_op op_add pe_int (pe_op op_mod (pe_ix (My.ix_tupK (K := K) rfl) (pv 1) pe_int (fun _ _ => rfl)) pe_int)) (pa_cons (pe_op (My.catAK (K := K) rfl) (pv 2) (pe_slice (My.sl_tupAK (K := K) rfl) (pe_ix (My.ix_tupK (K := K) rfl) (pv 1) pe_int (fun _ _ => rfl)) (po_some pe_int) po_none)) pa_nil))))))
  pss_nil)
  (pss_cons (ps_par (i := 3) (j := 4) (by rfl) sc_law_right.nd rfl rfl (by decide) rfl rfl (pa_cons (C8.pe_c c_law_made hr (by decide) rfl (pa_cons (pv 0) (pa_cons (pv 1) pa_nil))) (pa_cons (My.pe_joinK (K := K) rfl pe_str (C8.pe_c c_law_lines hr (by decide) rfl (pa_cons (pv 1) pa_nil))) pa_nil)) (by rfl))
  (pss_cons (ps_set (i := 5) sc_law_right.nd rfl (by first | exact Or.inl rfl | exact Or.inr rfl) (C8.pe_c c_read_book hr (by decide) rfl (pa_cons (pv 4) pa_nil)))
  (pss_cons (ps_if (PW.pt (pw_or (pt_not (pt_val (C8.pe_c c_law_alike hr (by decide) rfl (pa_cons (pe_lst (pa_cons (C8.pe_mt0 c_Book_days hr (by decide) (pv 5)) (pa_cons (C8.pe_mt0 c_Book_rules hr (by decide) (pv 5)) pa_nil))) (pa_cons (pe_lst (pa_cons (pe_ix (My.ix_tupK (K := K) rfl) (pv 1) pe_int (fun _ _ => rfl)) (pa_cons (pe_ix (My.ix_tupK (K := K) rfl) (pv 1) pe_int (fun _ _ => rfl)) pa_nil))) pa_nil))))) (pw_or1 (pt_not (pt_val (C8.pe_c c_law_alike hr (by decide) rfl (pa_cons (pe_cmpR (My.op_eqIns (c_Book_eq (P := P) (w := w) (K := K) (base := base) T) hr (by decide)) (pv 5) (pv 3) (nomark _)) (pa_cons pe_bl pa_nil))))))))
  (pss_one (ps_ret pe_bl))
  pss_nil)
  (pss_cons (ps_if (PW.pt (pw_or (pt_cmpR op_ne (C8.pe_c c_book_text hr (by decide) rfl (pa_cons (pv 5) pa_nil)) (pv 4) (nomark _)) (pw_or1 (pt_cmpR op_ne (C8.pe_c c_book_text hr (by decide) rfl (pa_cons (pv 3) pa_nil)) (pv 4) (nomark _)))))
  (pss_one (ps_ret pe_bl))
  pss_nil)
  (pss_cons (ps_set (i := 6) sc_law_right.nd rfl (by first | exact Or.inl rfl | exact Or.inr rfl) (C8.pe_c c_law_acts hr (by decide) rfl (pa_cons (pv 0) (pa_cons (pe_ix (My.ix_tupK (K := K) rfl) (pv 1) pe_int (fun _ _ => rfl)) pa_nil))))
  (pss_cons (ps_set (i := 7) sc_law_right.nd rfl (by first | exact Or.inl rfl | exact Or.inr rfl) (My.pe_joinK (K := K) rfl pe_str (pe_lc (own := [("act", 8)]) (g := (gName 8)) (tt := tYes) (by rfl) sc_law_right.nd (My.pi_listK (K := K) rfl (pv 6)) (blkOk_by (N := N_law_right) (sc := defScope s_law_right) (by decide +kernel)) (fun _ _ _ _ _ => (pg_name (i := 8) sc_law_right.nd rfl (by first | exact Or.inl rfl | exact Or.inr rfl))) (fun _ _ _ _ _ => pts_nil) (fun _ _ _ _ _ => (C8.pe_c c_law_deed_line hr (by decide) rfl (pa_cons (pv 8) pa_nil))))))
  (pss_cons (ps_set (i := 9) sc_law_right.nd rfl (by first | exact Or.inl rfl | exact Or.inr rfl) (C8.pe_c c_read_deeds hr (by decide) rfl (pa_cons (pv 7) pa_nil)))
  (pss_cons (ps_if (PW.pt (pw_or (pt_not (pt_val (C8.pe_c c_law_alike hr (by decide) rfl (pa_cons (pv 9) (pa_cons (pv 6) pa_nil))))) (pw_or (pt_cmpR op_ne (C8.pe_c c_deeds_text hr (by decide) rfl (pa_cons (pv 9) pa_nil)) (pv 7) (nomark _)) (pw_or1 (pt_cmpR op_ne (C8.pe_c c_deeds_text hr (by decide) rfl (pa_cons (pv 6) pa_nil)) (pv 7) (nomark _))))))
  (pss_one (ps_ret pe_bl))
  pss_nil)
  (pss_cons (ps_par3 (i := 10) (j := 11) (l := 12) (by rfl) sc_law_right.nd rfl rfl rfl (by decide) (by decide) (by decide) rfl rfl rfl (pa_cons (pe_lst (pa_cons pe_bl (pa_cons (pe_lst pa_nil) (pa_cons pe_str (pa_cons (pe_lst pa_nil) (pa_cons pe_non (pa_cons pe_non pa_nil))))))) (pa_cons (pe_lst pa_nil) (pa_cons pe_int pa_nil))) (by rfl))
  (pss_cons (ps_for PassesOwn.never rfl (My.pi_listK (K := K) rfl (pv 6)) (pg_name (i := 8) sc_law_right.nd rfl (by first | exact Or.inl rfl | exact Or.inr rfl))
  (pss_cons (ps_set (i := 12) sc_law_right.nd rfl (by first | exact Or.inl rfl | exact Or.inr rfl) (pe_op op_add (pv 12) (pe_callTy call_int1 (by rfl) T.int (by decide +kernel) (pa_cons (pe_cmpR op_eq (pe_ix (My.ix_tupK (K := K) rfl) (pv 8) pe_int (fun _ _ => rfl)) pe_str (nomark _)) pa_nil))))
  (pss_one (ps_expr (My.pe_bmK (K := K) rfl PySem.F.plainAttrs_list PySem.F.slot_list_append PySem.F.type_list_append mt_append (pv 11) (pa_cons (C8.pe_c c_law_report hr (by decide) rfl (pa_cons (pv 10) (pa_cons (pv 1) (pa_cons (pv 8) (pa_cons (pv 12) pa_nil))))) pa_nil))))))
  (pss_cons (ps_set (i := 13) sc_law_right.nd rfl (by first | exact Or.inl rfl | exact Or.inr rfl) (pe_tup (pa_cons (pe_ix (My.ix_listK (K := K) rfl) (pv 10) pe_int (fun _ _ => rfl)) (pa_cons (pe_ix (My.ix_listK (K := K) rfl) (pv 10) pe_int (fun _ _ => rfl)) (pa_cons (pe_ix (My.ix_listK (K := K) rfl) (pv 10) pe_int (fun _ _ => rfl)) (pa_cons (pe_ix (My.ix_listK (K := K) rfl) (pv 10) pe_int (fun _ _ => rfl)) (pa_cons (pe_ix (My.ix_listK (K := K) rfl) (pv 10) pe_int (fun _ _ => rfl)) pa_nil)))))))
  (pss_cons (ps_par (i := 14) (j := 15) (by rfl) sc_law_right.nd rfl rfl (by decide) rfl rfl (pa_cons (C8.pe_c c_play hr (by decide) rfl (pa_cons (pv 5) (pa_cons (pv 9) pa_nil))) (pa_cons (C8.pe_c c_boxes hr (by decide) rfl (pa_cons (pv 5) (pa_cons (pv 9) pa_nil))) pa_nil)) (by rfl))
  (pss_cons (ps_if (PW.pt (pw_or (pt_not (pt_val (C8.pe_c c_law_alike hr (by decide) rfl (pa_cons (pv 14) (pa_cons (pv 11) pa_nil))))) (pw_or (pt_not (pt_val (C8.pe_c c_law_alike hr (by decide) rfl (pa_cons (C8.pe_c c_play hr (by decide) rfl (pa_cons (pv 3) (pa_cons (pv 6) pa_nil))) (pa_cons (pv 11) pa_nil))))) (pw_or1 (pt_not (pt_val (C8.pe_c c_law_alike hr (by decide) rfl (pa_cons (pv 9) (pa_cons (pv 6) pa_nil)))))))))
  (pss_one (ps_ret pe_bl))
  pss_nil)
  (pss_cons (ps_if (PW.pt (pw_or (pt_not (pt_val (C8.pe_c c_law_alike hr (by decide) rfl (pa_cons (pv 15) (pa_cons (pv 13) pa_nil))))) (pw_or1 (pt_not (pt_val (C8.pe_c c_law_alike hr (by decide) rfl (pa_cons (C8.pe_c c_boxes hr (by decide) rfl (pa_cons (pv 3) (pa_cons (pv 6) pa_nil))) (pa_cons (pv 13) pa_nil))))))))
  (pss_one (ps_ret pe_bl))
  pss_nil)
  (pss_cons (ps_expr (My.pe_bmK (K := K) rfl PySem.F.plainAttrs_list PySem.F.slot_list_append PySem.F.type_list_append mt_append (pv 14) (pa_cons pe_int pa_nil)))
  (pss_cons (ps_expr (My.pe_bm0K (K := K) rfl PySem.F.plainAttrs_list PySem.F.slot_list_clear PySem.F.type_list_clear mt_clear (pv 9)))
  (pss_cons (ps_expr (My.pe_bmK (K := K) rfl PySem.F.plainAttrs_list PySem.F.slot_list_append PySem.F.type_list_append mt_append (pe_ix (My.ix_tupK (K := K) rfl) (pv 15) pe_int (fun _ _ => rfl)) (pa_cons pe_int pa_nil)))
  (pss_cons (ps_set (i := 16) sc_law_right.nd rfl (by first | exact Or.inl rfl | exact Or.inr rfl) (C8.pe_c c_read_deeds hr (by decide) rfl (pa_cons (pv 7) pa_nil)))
  (pss_one (ps_ret (pe_and (C8.pe_c c_law_alike hr (by decide) rfl (pa_cons (My.pe_kwi (ki_play (P := P) (w := w) (K := K) (base := base) T) hr (by decide) rfl (pk_cons (pv 5) (pk_cons (pv 16) pk_nil))) (pa_cons (pv 11) pa_nil))) (pe_one (C8.pe_c c_law_alike hr (by decide) rfl (pa_cons (My.pe_kwi (ki_boxes (P := P) (w := w) (K := K) (base := base) T) hr (by decide) rfl (pk_cons (pv 5) (pk_cons (pv 16) pk_nil))) (pa_cons (pv 13) pa_nil))))))))))))))))))))))))))))), ?_⟩
    refine ⟨_, rfl, a, n, rfl, hs, by omega, fun H1 p1 d1 rs1 b1 s1 hp1 hg1 h11 h12 => ?_⟩
    have lt100 : ∀ m : Nat, m ≤ 60000 → m < 2 ^ 100 := fun m h => Nat.lt_of_le_of_lt h (by decide)
    have rest3 : ∀ (H2 : Hp) (p wk rd A G : Addr) (d : Int) (rs : List RuleL) (o2 o8 : Option V) (us vs : List Addr) (ds : List Deed), But [a] H H2 → SpringAt H2 a (n + 171) → H G = none → PlanAt K H2 p d rs → GoodB rs → 1 ≤ d → d ≤ 30 → BookAt K H2 wk d rs → BookAt K H2 rd d rs → H2 A = some (.lst (us.map V.ref)) → DeedsAt K H2 (us.map V.ref) ds → H2 G = some (.lst (vs.map V.ref)) → DeedsAt K H2 (vs.map V.ref) ds → (∀ d ∈ ds, d.Ok) → Playable ds → ds.length ≤ 40 →
        (tSeq (tPar3 10 11 12 (tCons (tLst (tCons (tC (V.bl false)) (tCons (tLst tNil) (tCons (tC (V.str "free")) (tCons (tLst tNil) (tCons (tC V.non) (tCons (tC V.non) tNil))))))) (tCons (tLst tNil) (tCons (tC (V.int 0)) tNil)))) (tSeq (tFor (iList K (tVar 6)) (gName 8) (tSeq (tAsg (tOp (rI0 fun i j => V.int (i + j)) (tVar 12) (tCB (fun xs H Q => (∃ i, xs = [V.int i] ∧ Q (V.int i) H) ∨ ∃ k, xs = [V.bl k] ∧ Q (V.int (if k = true then 1 else 0)) H) (tCons (tOp rEq (tOp (rIxT K) (tVar 8) (tC (V.int 0))) (tC (V.str "bring"))) tNil))) (gName 12)) (tDrop (tBM K "list" rAppend (tVar 11) (tCons (tCall (sp_law_report K) [] C8.E0 (tCons (tVar 10) (tCons (tVar 1) (tCons (tVar 8) (tCons (tVar 12) tNil))))) tNil))))) (tSeq (tAsg (tTup (tCons (tOp (rIxL K) (tVar 10) (tC (V.int 0))) (tCons (tOp (rIxL K) (tVar 10) (tC (V.int 1))) (tCons (tOp (rIxL K) (tVar 10) (tC (V.int 2))) (tCons (tOp (rIxL K) (tVar 10) (tC (V.int 3))) (tCons (tOp (rIxL K) (tVar 10) (tC (V.int 4))) tNil)))))) (gName 13)) (tSeq (tPar 14 15 (tCons (tCall (sp_play K) [] C8.E0 (tCons (tVar 5) (tCons (tVar 9) tNil))) (tCons (tCall (sp_boxes K) [] C8.E0 (tCons (tVar 5) (tCons (tVar 9) tNil))) tNil))) (tSeq (tIfS (tOr (tNot (tB (tCall (sp_law_alike K) [] C8.E0 (tCons (tVar 14) (tCons (tVar 11) tNil))))) (tOr (tNot (tB (tCall (sp_law_alike K) [] C8.E0 (tCons (tCall (sp_play K) [] C8.E0 (tCons (tVar 3) (tCons (tVar 6) tNil))) (tCons (tVar 11) tNil))))) (tNot (tB (tCall (sp_law_alike K) [] C8.E0 (tCons (tVar 9) (tCons (tVar 6) tNil))))))) (tRet (tC (V.bl false))) tNext) (tSeq (tIfS (tOr (tNot (tB (tCall (sp_law_alike K) [] C8.E0 (tCons (tVar 15) (tCons (tVar 13) tNil))))) (tNot (tB (tCall (sp_law_alike K) [] C8.E0 (tCons (tCall (sp_boxes K) [] C8.E0 (tCons (tVar 3) (tCons (tVar 6) tNil))) (tCons (tVar 13) tNil)))))) (tRet (tC (V.bl false))) tNext) (tSeq (tDrop (tBM K "list" rAppend (tVar 14) (tCons (tC (V.int 7)) tNil))) (tSeq (tDrop (tBM0 K "list" rClear (tVar 9))) (tSeq (tDrop (tBM K "list" rAppend (tOp (rIxT K) (tVar 15) (tC (V.int 1))) (tCons (tC (V.int 0)) tNil))) (tSeq (tAsg (tCall (sp_read_deeds K) [] C8.E0 (tCons (tVar 7) tNil)) (gName 16)) (tRet (tAndV (tCall (sp_law_alike K) [] C8.E0 (tCons (tCallK (sp_play K) kwI C8.E0 tNil (tCons (tVar 5) (tCons (tVar 16) tNil))) (tCons (tVar 11) tNil))) (tCall (sp_law_alike K) [] C8.E0 (tCons (tCallK (sp_boxes K) kwI C8.E0 tNil (tCons (tVar 5) (tCons (tVar 16) tNil))) (tCons (tVar 13) tNil))))))))))))))) { nx := fun x H' => Q V.non H', rt := Q } [some (.ref a), some (.ref p), o2, some (.ref wk), some (.str (bookS d rs)), some (.ref rd), some (.ref A), some (.str (textF ds)), o8, some (.ref G), none, none, none, none, none, none, none] H2 := by
      intro H2 p wk rd A G d rs o2 o8 us vs ds b2 sp2 hG0 hp hg h1 h2 hw hR hA hD hG hE hok hP hl
      refine ⟨Nat.zero_le _, fun li hli => ⟨Nat.zero_le _, fun lv hlv => ⟨by show 6 ≤ sizeLine; decide, fun X hX => ⟨Nat.zero_le _, fun U hU => ⟨_, _, _, rfl, ?_⟩⟩⟩⟩⟩
      have y1 := same_new (o := .lst []) hli
      have y2 := same_new (o := .lst []) hlv
      have y3 := same_new (o := .lst [V.bl false, .ref li, .str "free", .ref lv, .non, .non]) hX
      have y4 := same_new (o := .lst []) hU
      have y34 := y3.trans y4
      have y14 := (y1.trans y2).trans y34
      have nlX : li ≠ X := ne_of_none (y2 _ _ upd_same) hX
      have nvX : lv ≠ X := ne_of_none upd_same hX
      have nlU : li ≠ U := ne_of_none (y3 _ _ (y2 _ _ upd_same)) hU
      have nvU : lv ≠ U := ne_of_none (y3 _ _ upd_same) hU
      have nXU : X ≠ U := ne_of_none upd_same hU
      have hX2 : H2 X = none := y1.free (y2.free hX)
      have hU2 : H2 U = none := y1.free (y2.free (y3.free hU))
      have hUv : upd (upd (upd (upd H2 li (.lst [])) lv (.lst [])) X (.lst [V.bl false, .ref li, .str "free", .ref lv, .non, .non])) U (.lst []) U = some (.lst []) := upd_same
      have nlG : li ≠ G := (ne_of_none hG hli).symm
      have nvG : lv ≠ G := (ne_of_none hG (y1.free hlv)).symm
      have nXG : X ≠ G := (ne_of_none hG hX2).symm
      have hB4 : LB5 [U, G] (upd (upd (upd (upd H2 li (.lst [])) lv (.lst [])) X (.lst [V.bl false, .ref li, .str "free", .ref lv, .non, .non])) U (.lst [])) X S0 :=
        ⟨li, lv, [], y4 _ _ upd_same, y34 _ _ (y2 _ _ upd_same), y34 _ _ upd_same, List.Perm.refl _, List.Pairwise.nil, nlX, nvX, List.nodup_nil, by simp [nlU, nlG], by simp [nvU, nvG]⟩
      show Ends.nx _ [some (.ref a), some (.ref p), o2, some (.ref wk), some (.str (bookS d rs)), some (.ref rd), some (.ref A), some (.str (textF ds)), o8, some (.ref G), some (.ref X), some (.ref U), some (.int 0), none, none, none, none] _
      generalize upd (upd (upd (upd H2 li (.lst [])) lv (.lst [])) X (.lst [V.bl false, .ref li, .str "free", .ref lv, .non, .non])) U (.lst []) = H1' at hB4 hUv y14
      refine ⟨_, rfl, A, rfl, ⟨_, SqL.of (y14 _ _ hA)⟩, ?_⟩
      refine for_list (K := K) (a := A) (xs := us.map V.ref) (fun i σ H' => ∃ o, σ = [some (.ref a), some (.ref p), o2, some (.ref wk), some (.str (bookS d rs)), some (.ref rd), some (.ref A), some (.str (textF ds)), o, some (.ref G), some (.ref X), some (.ref U), some (.int (runF rs d (ds.take i)).1), none, none, none, none] ∧ Same H2 H' ∧ LB5 [U, G] H' X (runF rs d (ds.take i)).2.1 ∧ ∃ zs : List (Addr × Addr × Addr), H' U = some (.lst (zs.map fun z => V.ref z.1)) ∧ Paired (ItAt H') zs (runF rs d (ds.take i)).2.2 ∧ ∀ x ∈ lets zs, x ∉ [U, G])
        ⟨_, rfl, y14, hB4, [], hUv, .nil, fun x hx => (by cases hx)⟩ (fun i σ H' _ z => ?_) ?_ ?_
      · obtain ⟨_, _, s, _⟩ := z
        exact SqL.of (s _ _ hA)
      · rintro i y σ H3 hi ⟨o, rfl, s2, hB, zs, hsl2, hzs, hzn⟩
        obtain ⟨x, hx, ax, rfl, hax⟩ : ∃ x, ds[i]? = some x ∧ DeedAt K H2 y x := paired_at hD hi
        have hax2 := same_tup s2 hax
        have hil : i < ds.length := (List.getElem?_eq_some_iff.mp hx).1
        have w0 : atI x.vs 0 = some (.str x.w) := by cases x <;> rfl
        have hla := la_run rs d ds i (by omega)
        have bdi := runF_bd (d := d) hg ds i (by omega)
        obtain ⟨f1, f3, fys, hbx2, fr⟩ := id hB
        have nob : ∀ {c : Addr} {l : List Int}, H3 c = some (.lst (l.map V.int)) → c ∉ [X] := fun e z => by
          rw [List.mem_singleton.mp z, hbx2] at e
          exact int_box e
        have ntb : ∀ {c : Addr} {l : List V}, H3 c = some (.tup l) → c ∉ [X] := fun e z => by
          rw [List.mem_singleton.mp z, hbx2] at e
          cases e
        refine ⟨_, rfl, _, rfl, ax, _, 0, _, rfl, rfl, hax2, w0, rfl, .inr ⟨_, rfl, _, _, rfl, rfl, ?_⟩⟩
        have en : (runF rs d (ds.take i)).1 + (if decide (V.str x.w = V.str "bring") = true then (1 : Int) else 0) = (if isBr x = true then (runF rs d (ds.take i)).1 + 1 else (runF rs d (ds.take i)).1) := by
          cases x <;> first | rfl | exact Int.add_zero _
        show Ends.nx _ [some (.ref a), some (.ref p), o2, some (.ref wk), some (.str (bookS d rs)), some (.ref rd), some (.ref A), some (.str (textF ds)), some (.ref ax), some (.ref G), some (.ref X), some (.ref U), some (.int ((runF rs d (ds.take i)).1 + (if decide (V.str x.w = V.str "bring") = true then (1 : Int) else 0))), none, none, none, none] H3
        rw [en]
        refine ⟨_, rfl, .inl ⟨rfl, _, SqL.of hsl2⟩, _, rfl, _, rfl, _, rfl, _, rfl, X, p, ax, d, _, rs, (runF rs d (ds.take i)).2.1, [U, G], 16 * i, x, rfl, hp.same s2, hg, hB, fun z hz => ?_, by simp [nXU, nXG], hax2, bdi, by omega, fun a e => ?_, fun H4 r b3 hB3 hR3 hr3 => ?_⟩
        · rcases List.mem_cons.mp hz with z1 | hz
          · rw [z1, hsl2]; exact fun e => by cases e
          · rw [List.mem_singleton.mp hz, s2 _ _ hG]; exact fun e => by cases e
        · have := hla.2 a e
          omega
        have e3 := runF_more (rs := rs) (d := d) hx
        have hsl3 := b3 _ _ (by simpa using nXU.symm) hsl2
        have hzl : zs.length = i := by rw [hzs.length, runF_len, List.length_take]; omega
        have s3 : Same H2 H4 := fun c o e => b3 c o (fun z => by rw [List.mem_singleton.mp z, hX2] at e; cases e) (s2 _ _ e)
        refine ⟨U, _, _, rfl, rfl, hsl3, by rw [List.length_map, hzl]; exact lt_line (by omega), some (.ref ax), by rw [e3]; rfl, same_upd s3 hU2, ?_, ?_⟩
        · rw [e3]
          obtain ⟨g1, g3, gys, k1, k2, k3, k4, k5, k6, k7, k8, k10, k11⟩ := hB3
          exact ⟨g1, g3, gys, (upd_ne nXU).trans k1, (upd_ne (ne_hd k10)).trans k2, (upd_ne (ne_hd k11)).trans k3, k4, k5, k6, k7, k8, k10, k11⟩
        · rw [e3]
          obtain ⟨e1, e2, r1, r2, r4, r5, r6⟩ := hR3
          have h3sl : ∀ {c : Addr} {o : HO}, H4 c = some o → (∀ l, o ≠ .lst l) → c ≠ U := fun h n z => by
            rw [z, hsl3] at h
            exact n _ (Option.some.inj h).symm
          refine ⟨zs ++ [(r, e1, e2)], by rw [upd_same, List.map_append]; rfl, ?_, fun c hc => ?_⟩
          · refine Paired.snoc (paired_map (fun z U hz hv => ?_) hzs) ?_
            · obtain ⟨a1, a2, a3⟩ := hv
              have m1 := hzn _ (lets_mem hz).1
              have m2 := hzn _ (lets_mem hz).2
              have a1' := b3 _ _ (ntb a1) a1
              exact ⟨(upd_ne (h3sl a1' (fun l e => by cases e))).trans a1', (upd_ne (ne_hd m1)).trans (b3 _ _ (nob a2) a2), (upd_ne (ne_hd m2)).trans (b3 _ _ (nob a3) a3)⟩
            · exact ⟨(upd_ne (h3sl r1 (fun l e => by cases e))).trans r1, (upd_ne (ne_hd r5)).trans r2, (upd_ne (ne_hd r6)).trans r4⟩
          · rw [lets_app] at hc
            rcases List.mem_append.mp hc with hc | hc
            · exact hzn c hc
            · have hc2 : c ∈ [e1, e2] := hc
              simp only [List.mem_cons, List.not_mem_nil, or_false] at hc2
              rcases hc2 with z | z
              · rw [z]; exact r5
              · rw [z]; exact r6
      rintro σ H3 ⟨o, rfl, s2, hB, zs, hsl2, hzs, hzn⟩
      have hul := hD.len
      rw [List.length_map, hul, List.take_length] at hB hzs
      obtain ⟨g1, g3, gys, k1, k2, k3, k4, k5, k6, k7, k8, k10, k11⟩ := hB
      have kT := SqL.of (K := K) k1
      refine ⟨_, rfl, X, _, 0, _, rfl, rfl, kT, rfl, _, rfl, X, _, 1, _, rfl, rfl, kT, rfl, _, rfl, X, _, 2, _, rfl, rfl, kT, rfl, _, rfl, X, _, 3, _, rfl, rfl, kT, rfl, _, rfl, X, _, 4, _, rfl, rfl, kT, rfl, by show 5 ≤ sizeLine; decide, fun q5 h5 => ?_⟩
      have yq := same_new (o := .tup [.bl (runF rs d ds).2.1.ajar, .ref g1, .str (runF rs d ds).2.1.tf, .ref g3, oV (runF rs d ds).2.1.age]) h5
      have s4 := s2.trans yq
      have hq4 : upd H3 q5 (.tup [.bl (runF rs d ds).2.1.ajar, .ref g1, .str (runF rs d ds).2.1.tf, .ref g3, oV (runF rs d ds).2.1.age]) q5 = _ := upd_same
      have k2' := yq _ _ k2
      have k3' := yq _ _ k3
      have hU4 := yq _ _ hsl2
      have hz4 := paired_map (fun _ _ _ hv => ItAt.same yq hv) hzs
      show Ends.nx _ [some (.ref a), some (.ref p), o2, some (.ref wk), some (.str (bookS d rs)), some (.ref rd), some (.ref A), some (.str (textF ds)), o, some (.ref G), some (.ref X), some (.ref U), _, some (.ref q5), none, none, none] _
      generalize upd H3 q5 (.tup [.bl (runF rs d ds).2.1.ajar, .ref g1, .str (runF rs d ds).2.1.tf, .ref g3, oV (runF rs d ds).2.1.age]) = H4 at s4 hq4 k2' k3' hU4 hz4
      have hR4 := hR.same s4
      have w4 := hw.same s4
      have hG4 := s4 _ _ hG
      have hA4 := s4 _ _ hA
      have hE4 := hE.same s4
      have hD4 := hD.same s4
      have bds := runF_bd (d := d) hg ds ds.length (Nat.le_refl _)
      rw [List.take_length] at bds
      have hin : (runF rs d ds).2.1.inside.length ≤ 640 := Nat.le_trans bds.i (by omega)
      have hva : (runF rs d ds).2.1.valid.length ≤ 640 := Nat.le_trans bds.v (by omega)
      have hgy : gys.length ≤ 640 := by rw [k4.length_eq]; exact hva
      have du4 : DueAt H4 U (runF rs d ds).2.2 := ⟨zs, hU4, hz4⟩
      have sd4 : Dp K H4 (.ref q5) (stdD (runF rs d ds).2.1 gys) := dp_std hq4 k2' k3'
      refine ⟨_, rfl, _, rfl, rd, G, d, rs, vs.map V.ref, ds, rfl, hR4, hg, SqL.of hG4, hE4, hP, by omega, fun H5 r y5 hr5 => ?_⟩
      refine ⟨_, rfl, _, rfl, rd, G, d, rs, vs.map V.ref, ds, rfl, hR4.same y5, hg, SqL.of (y5 _ _ hG4), hE4.same y5, hP, by omega, by omega, fun H6 s9 ys y6 hs6 => ⟨_, _, rfl, ?_⟩⟩
      have du6 := (du4.same y5).same y6
      refine ⟨_, rfl, _, rfl, .ref r, .ref U, .list ((runF rs d ds).2.2.map repD), rfl, (hr5.due.same y6).dp, du6.dp, sz_reps hg hl 1, fun H7 y7 => ⟨true, rfl, ?_⟩⟩
      have y47 := (y5.trans y6).trans y7
      refine ⟨_, rfl, _, rfl, wk, A, d, rs, us.map V.ref, ds, rfl, w4.same y47, hg, SqL.of (y47 _ _ hA4), hD4.same y47, hP, by omega, fun H8 r2 y8 hr8 => ?_⟩
      refine ⟨_, rfl, .ref r2, .ref U, .list ((runF rs d ds).2.2.map repD), rfl, hr8.due.dp, ((du4.same y47).same y8).dp, sz_reps hg hl 1, fun H9 y9 => ⟨true, rfl, ?_⟩⟩
      have y49 := (y47.trans y8).trans y9
      refine ⟨_, rfl, _, rfl, .ref G, .ref A, .list (ds.map deedD), rfl, .lst (SqL.of (y49 _ _ hG4)) (dp_deeds (hE4.same y49)), .lst (SqL.of (y49 _ _ hA4)) (dp_deeds (hD4.same y49)), sz_deeds (by omega) 2, fun HA yA => ⟨true, rfl, ?_⟩⟩
      have y4A := y49.trans yA
      have y6A := ((y7.trans y8).trans y9).trans yA
      obtain ⟨m1, m2, hs1, hm1, hm2, nm12, fm1, fm2, fs9, hpm, hst⟩ := hs6
      have eg : gys = ys := PySem.W.ksm_same (k4.trans hpm.symm) k5 hst
      subst eg
      have hs1A := y6A _ _ hs1
      have hm1A := y6A _ _ hm1
      have hm2A := y6A _ _ hm2
      refine ⟨_, rfl, _, rfl, .ref s9, .ref q5, stdD (runF rs d ds).2.1 gys, rfl, dp_std hs1A hm1A hm2A, dp_same y4A sd4, sz_std (by omega) (by omega) 2, fun HB yB => ⟨true, rfl, ?_⟩⟩
      have y4B := y4A.trans yB
      refine ⟨_, rfl, _, rfl, wk, A, d, rs, us.map V.ref, ds, rfl, w4.same y4B, hg, SqL.of (y4B _ _ hA4), hD4.same y4B, hP, by omega, by omega, fun HC s3' ys3 yC hs3 => ?_⟩
      obtain ⟨m3, m4, hs31, hm3, hm4, _, _, _, _, hpm3, hst3⟩ := hs3
      have eg : gys = ys3 := PySem.W.ksm_same (k4.trans hpm3.symm) k5 hst3
      subst eg
      refine ⟨_, rfl, .ref s3', .ref q5, stdD (runF rs d ds).2.1 gys, rfl, dp_std hs31 hm3 hm4, dp_same (y4B.trans yC) sd4, sz_std (by omega) (by omega) 2, fun HD yD => ⟨true, rfl, ?_⟩⟩
      have y4D := (y4B.trans yC).trans yD
      have y6D := ((y6A.trans yB).trans yC).trans yD
      obtain ⟨rz, hr51, hr52, _, _, fr⟩ := hr5
      have hrD := (y6.trans y6D) _ _ hr51
      have rlen : rz.length ≤ 40 := by rw [hr52.length, runF_len]; exact hl
      refine ⟨_, rfl, .inl ⟨rfl, _, SqL.of hrD⟩, r, _, _, rfl, rfl, hrD, by rw [List.length_map]; exact lt_line (by omega), ?_⟩
      have nrG : r ≠ G := (ne_of_none hG4 fr).symm
      have nrm : r ≠ m1 := ne_of_none hr51 fm1
      have nGm : G ≠ m1 := ne_of_none (y5 _ _ hG4) fm1
      have nUG : U ≠ G := (ne_of_none hG hU2).symm
      have hsD := y6D _ _ hs1
      have hmD := y6D _ _ hm1
      have nsr : s9 ≠ r := ne_of hsD hrD (fun z => by cases z)
      have nsG : s9 ≠ G := ne_of hsD (y4D _ _ hG4) (fun z => by cases z)
      have hG1 : upd HD r (.lst (rz.map (fun z => V.ref z.1) ++ [.int 7])) G = some (.lst (vs.map V.ref)) := (upd_ne nrG.symm).trans (y4D _ _ hG4)
      refine ⟨_, rfl, .inl ⟨rfl, _, SqL.of hG1⟩, G, _, rfl, rfl, hG1, ?_⟩
      have hs2 : upd (upd HD r (.lst (rz.map (fun z => V.ref z.1) ++ [.int 7]))) G (.lst []) s9 = _ := (upd_ne nsG).trans ((upd_ne nsr).trans hsD)
      have hm12 : upd (upd HD r (.lst (rz.map (fun z => V.ref z.1) ++ [.int 7]))) G (.lst []) m1 = _ := (upd_ne nGm.symm).trans ((upd_ne nrm.symm).trans hmD)
      refine ⟨_, rfl, s9, _, 1, _, rfl, rfl, SqT.of hs2, rfl, .inl ⟨rfl, _, SqL.of hm12⟩, m1, _, _, rfl, rfl, hm12, by rw [List.length_map]; exact lt_line (by omega), ?_⟩
      have kp : ∀ c o, H4 c = some o → c ≠ G → upd (upd (upd HD r (.lst (rz.map (fun z => V.ref z.1) ++ [.int 7]))) G (.lst [])) m1 (.lst ((runF rs d ds).2.1.inside.map V.int ++ [.int 0])) c = some o := fun c o e nc => (upd_ne (ne_of_none (y5 _ _ e) fm1)).trans ((upd_ne nc).trans ((upd_ne (ne_of_none e fr)).trans (y4D _ _ e)))
      have hRZ : BookAt K (upd (upd (upd HD r (.lst (rz.map (fun z => V.ref z.1) ++ [.int 7]))) G (.lst [])) m1 (.lst ((runF rs d ds).2.1.inside.map V.int ++ [.int 0]))) rd d rs := (((hR4.same y4D).putL hrD).putL hG1).putL hm12
      have ex4 : ∃ o, H4 a = some o := by
        obtain ⟨_, _, _, e, _⟩ := sp2.same s4
        exact ⟨_, e⟩
      obtain ⟨oa, ea⟩ := ex4
      have har : a ≠ r := ne_of_none ea fr
      have ham : a ≠ m1 := ne_of_none (y5 _ _ ea) fm1
      have hr0 : H r = none := (b2.trans (But.of s4)).none (by simpa using har.symm) fr
      have hm0 : H m1 = none := (b2.trans (But.of (s4.trans y5))).none (by simpa using ham.symm) fm1
      have bZ : But [a] H (upd (upd (upd HD r (.lst (rz.map (fun z => V.ref z.1) ++ [.int 7]))) G (.lst [])) m1 (.lst ((runF rs d ds).2.1.inside.map V.int ++ [.int 0]))) := (((b2.trans (But.of (s4.trans y4D))).put (.inl hr0)).put (.inl hG0)).put (.inl hm0)
      have duZ : DueAt (upd (upd (upd HD r (.lst (rz.map (fun z => V.ref z.1) ++ [.int 7]))) G (.lst [])) m1 (.lst ((runF rs d ds).2.1.inside.map V.int ++ [.int 0]))) U (runF rs d ds).2.2 := ⟨zs, kp _ _ hU4 nUG, paired_map (fun z W hz hv => ⟨kp _ _ hv.1 (ne_of hv.1 hG4 (fun z => by cases z)), kp _ _ hv.2.1 (fun e => hzn _ (lets_mem hz).1 (by rw [e]; simp)), kp _ _ hv.2.2 (fun e => hzn _ (lets_mem hz).2 (by rw [e]; simp))⟩) hz4⟩
      have sdZ : Dp K (upd (upd (upd HD r (.lst (rz.map (fun z => V.ref z.1) ++ [.int 7]))) G (.lst [])) m1 (.lst ((runF rs d ds).2.1.inside.map V.int ++ [.int 0]))) (.ref q5) (stdD (runF rs d ds).2.1 gys) := dp_std (kp _ _ hq4 (ne_of hq4 hG4 (fun z => by cases z))) (kp _ _ k2' (fun e => k10 (by rw [e]; simp))) (kp _ _ k3' (fun e => k11 (by rw [e]; simp)))
      show Ends.nx _ _ (upd (upd (upd HD r (.lst (rz.map (fun z => V.ref z.1) ++ [.int 7]))) G (.lst [])) m1 (.lst ((runF rs d ds).2.1.inside.map V.int ++ [.int 0])))
      generalize upd (upd (upd HD r (.lst (rz.map (fun z => V.ref z.1) ++ [.int 7]))) G (.lst [])) m1 (.lst ((runF rs d ds).2.1.inside.map V.int ++ [.int 0])) = HZ at hRZ bZ duZ sdZ
      refine ⟨_, rfl, ds, rfl, hok, by omega, fun HE t2 vs2 ht0 yE hT hE2 => ?_⟩
      refine ⟨_, rfl, _, rfl, rd, t2, d, rs, vs2.map V.ref, ds, rfl, hRZ.same yE, hg, SqL.of hT, hE2, hP, by omega, fun HF r3 yF hr3 => ?_⟩
      refine ⟨_, rfl, .ref r3, .ref U, .list ((runF rs d ds).2.2.map repD), rfl, hr3.due.dp, ((duZ.same yE).same yF).dp, sz_reps hg hl 1, fun HG yG => ⟨true, rfl, ?_⟩⟩
      have yEG := (yE.trans yF).trans yG
      have yFG := yF.trans yG
      refine ⟨_, rfl, _, rfl, rd, t2, d, rs, vs2.map V.ref, ds, rfl, hRZ.same yEG, hg, SqL.of (yFG _ _ hT), hE2.same yFG, hP, by omega, by omega, fun HI s5 ys5 yI hs5 => ?_⟩
      obtain ⟨m5, m6, hs51, hm5, hm6, _, _, _, _, hpm5, hst5⟩ := hs5
      have eg : gys = ys5 := PySem.W.ksm_same (k4.trans hpm5.symm) k5 hst5
      subst eg
      refine ⟨_, rfl, .ref s5, .ref q5, stdD (runF rs d ds).2.1 gys, rfl, dp_std hs51 hm5 hm6, dp_same (yEG.trans yI) sdZ, sz_std (by omega) (by omega) 2, fun HJ yJ => ?_⟩
      exact q _ (bZ.trans (But.of ((yEG.trans yI).trans yJ)))
    have rest2 : ∀ (H2 : Hp) (p wk rd : Addr) (d : Int) (rs : List RuleL) (o2 : Option V), But [a] H H2 → SpringAt H2 a (n + 71) → PlanAt K H2 p d rs → GoodB rs → 1 ≤ d → d ≤ 30 → BookAt K H2 wk d rs → BookAt K H2 rd d rs →
        (tSeq (tAsg (tCall (sp_law_acts K) [] C8.E0 (tCons (tVar 0) (tCons (tOp (rIxT K) (tVar 1) (tC (V.int 0))) tNil))) (gName 6)) (tSeq (tAsg (tM1 (rJoin K) (tC (V.str "\n")) (tLc (iList K (tVar 6)) (gName 8) tYes (tCall (sp_law_deed_line K) [] C8.E0 (tCons (tVar 8) tNil)) (List.map (fun x => x.snd) [(("act" : Str), 8)]))) (gName 7)) (tSeq (tAsg (tCall (sp_read_deeds K) [] C8.E0 (tCons (tVar 7) tNil)) (gName 9)) (tSeq (tIfS (tOr (tNot (tB (tCall (sp_law_alike K) [] C8.E0 (tCons (tVar 9) (tCons (tVar 6) tNil))))) (tOr (tTest (tOp rNe (tCall (sp_deeds_text K) [] C8.E0 (tCons (tVar 9) tNil)) (tVar 7))) (tTest (tOp rNe (tCall (sp_deeds_text K) [] C8.E0 (tCons (tVar 6) tNil)) (tVar 7))))) (tRet (tC (V.bl false))) tNext) (tSeq (tPar3 10 11 12 (tCons (tLst (tCons (tC (V.bl false)) (tCons (tLst tNil) (tCons (tC (V.str "free")) (tCons (tLst tNil) (tCons (tC V.non) (tCons (tC V.non) tNil))))))) (tCons (tLst tNil) (tCons (tC (V.int 0)) tNil)))) (tSeq (tFor (iList K (tVar 6)) (gName 8) (tSeq (tAsg (tOp (rI0 fun i j => V.int (i + j)) (tVar 12) (tCB (fun xs H Q => (∃ i, xs = [V.int i] ∧ Q (V.int i) H) ∨ ∃ k, xs = [V.bl k] ∧ Q (V.int (if k = true then 1 else 0)) H) (tCons (tOp rEq (tOp (rIxT K) (tVar 8) (tC (V.int 0))) (tC (V.str "bring"))) tNil))) (gName 12)) (tDrop (tBM K "list" rAppend (tVar 11) (tCons (tCall (sp_law_report K) [] C8.E0 (tCons (tVar 10) (tCons (tVar 1) (tCons (tVar 8) (tCons (tVar 12) tNil))))) tNil))))) (tSeq (tAsg (tTup (tCons (tOp (rIxL K) (tVar 10) (tC (V.int 0))) (tCons (tOp (rIxL K) (tVar 10) (tC (V.int 1))) (tCons (tOp (rIxL K) (tVar 10) (tC (V.int 2))) (tCons (tOp (rIxL K) (tVar 10) (tC (V.int 3))) (tCons (tOp (rIxL K) (tVar 10) (tC (V.int 4))) tNil)))))) (gName 13)) (tSeq (tPar 14 15 (tCons (tCall (sp_play K) [] C8.E0 (tCons (tVar 5) (tCons (tVar 9) tNil))) (tCons (tCall (sp_boxes K) [] C8.E0 (tCons (tVar 5) (tCons (tVar 9) tNil))) tNil))) (tSeq (tIfS (tOr (tNot (tB (tCall (sp_law_alike K) [] C8.E0 (tCons (tVar 14) (tCons (tVar 11) tNil))))) (tOr (tNot (tB (tCall (sp_law_alike K) [] C8.E0 (tCons (tCall (sp_play K) [] C8.E0 (tCons (tVar 3) (tCons (tVar 6) tNil))) (tCons (tVar 11) tNil))))) (tNot (tB (tCall (sp_law_alike K) [] C8.E0 (tCons (tVar 9) (tCons (tVar 6) tNil))))))) (tRet (tC (V.bl false))) tNext) (tSeq (tIfS (tOr (tNot (tB (tCall (sp_law_alike K) [] C8.E0 (tCons (tVar 15) (tCons (tVar 13) tNil))))) (tNot (tB (tCall (sp_law_alike K) [] C8.E0 (tCons (tCall (sp_boxes K) [] C8.E0 (tCons (tVar 3) (tCons (tVar 6) tNil))) (tCons (tVar 13) tNil)))))) (tRet (tC (V.bl false))) tNext) (tSeq (tDrop (tBM K "list" rAppend (tVar 14) (tCons (tC (V.int 7)) tNil))) (tSeq (tDrop (tBM0 K "list" rClear (tVar 9))) (tSeq (tDrop (tBM K "list" rAppend (tOp (rIxT K) (tVar 15) (tC (V.int 1))) (tCons (tC (V.int 0)) tNil))) (tSeq (tAsg (tCall (sp_read_deeds K) [] C8.E0 (tCons (tVar 7) tNil)) (gName 16)) (tRet (tAndV (tCall (sp_law_alike K) [] C8.E0 (tCons (tCallK (sp_play K) kwI C8.E0 tNil (tCons (tVar 5) (tCons (tVar 16) tNil))) (tCons (tVar 11) tNil))) (tCall (sp_law_alike K) [] C8.E0 (tCons (tCallK (sp_boxes K) kwI C8.E0 tNil (tCons (tVar 5) (tCons (tVar 16) tNil))) (tCons (tVar 13) tNil))))))))))))))))))) { nx := fun x H' => Q V.non H', rt := Q } [some (.ref a), some (.ref p), o2, some (.ref wk), some (.str (bookS d rs)), some (.ref rd), none, none, none, none, none, none, none, none, none, none, none] H2 := by
      intro H2 p wk rd d rs o2 b2 s2 hp hg h1 h2 hw hR
      obtain ⟨t1, as1, hq1, ht1, h31⟩ := id hp
      refine ⟨_, rfl, _, rfl, p, _, 0, _, rfl, rfl, hq1, rfl, a, _, d, rfl, s2, by omega, h1, h2, fun H3 A us ds b3 s3 hA0 hA hD hok hP hl => ?_⟩
      have p3 := hp.draw b3 s2
      have w3 := hw.draw b3 s2
      have r3 := hR.draw b3 s2
      refine ⟨⟨_, rfl⟩, _, rfl, A, rfl, ⟨_, SqL.of hA⟩, fun D hDn => ?_⟩
      refine lc_list (K := K) (a := A) (xs := us.map V.ref) (fun i H' => Same H3 H' ∧ H' D = some (.lst (((ds.take i).map lineF).map V.str))) ⟨same_new hDn, upd_same⟩ (fun i H' _ z => SqL.of (z.1 _ _ hA)) ?_ ?_
      · rintro i y H4 hi ⟨y4, hD4⟩
        obtain ⟨dd, hdd, b, rfl, hb⟩ := paired_at hD hi
        refine ⟨rfl, ?_⟩
        refine ⟨_, rfl, b, dd, rfl, same_tup y4 hb, hok dd (List.mem_of_getElem? hdd), fun H5 y5 => ?_⟩
        refine ⟨_, y5 _ _ hD4, ?_, same_upd (y4.trans y5) hDn, ?_⟩
        · rw [List.length_map, List.length_map, List.length_take]
          exact lt_line (by omega)
        · rw [upd_same, take_more hdd, List.map_append, List.map_append]
          rfl
      rintro H4 ⟨y4, hD4⟩
      have hul := hD.len
      rw [List.length_map, hul, List.take_length] at hD4
      refine ⟨"\n", D, ds.map lineF, rfl, rfl, .inl (SqL.of hD4), ?_, ?_⟩
      · have h1 := sum_lines hok
        have e2 : ("\n" : Str).length = 1 := by decide +kernel
        rw [List.length_map, e2]
        omega
      refine ⟨_, rfl, ds, rfl, hok, by omega, fun H5 G vs hG0 y5 hG hE => ?_⟩
      have y35 := y4.trans y5
      have hA5 := y35 _ _ hA
      have hD5 := hD.same y35
      refine ⟨_, rfl, _, rfl, .ref G, .ref A, .list (ds.map deedD), rfl, .lst (SqL.of hG) (dp_deeds hE), .lst (SqL.of hA5) (dp_deeds hD5), sz_deeds (by omega) 2, fun H6 y6 => ⟨true, rfl, ?_⟩⟩
      refine ⟨_, rfl, G, _, ds, rfl, SqL.of (y6 _ _ hG), hE.same y6, hok, by omega, fun H7 y7 => ?_⟩
      have y57 := y6.trans y7
      have tr : (!decide (V.str (textF ds) = V.str (Txt.join "\n" (ds.map lineF)))) = false := by rw [decide_eq_true (show V.str (textF ds) = V.str (Txt.join "\n" (ds.map lineF)) from rfl)]; rfl
      refine ⟨_, rfl, rfl, _, rfl, ?_⟩
      rw [tr]
      refine ⟨_, rfl, A, _, ds, rfl, SqL.of (y57 _ _ hA5), hD5.same y57, hok, by omega, fun H8 y8 => ?_⟩
      refine ⟨_, rfl, rfl, _, rfl, ?_⟩
      rw [tr]
      have y58 := y57.trans y8
      have y38 := y35.trans y58
      have hGa : a ≠ G := by
        obtain ⟨_, _, _, e, _⟩ := s3.same y4
        exact ne_of_none e hG0
      exact rest3 H8 p wk rd A G d rs _ _ us vs ds ((b2.trans b3).trans (But.of y38)) (s3.same y38) (((b2.trans b3).trans (But.of y4)).none (by simpa using hGa.symm) hG0) (p3.same y38) hg h1 h2 (w3.same y38) (r3.same y38) (y38 _ _ hA) (hD.same y38) (y58 _ _ hG) (hE.same y58) hok hP hl
    have rest1 : ∀ (H2 : Hp) (p : Addr) (d : Int) (rs : List RuleL) (o2 : Option V), But [a] H H2 → SpringAt H2 a (n + 61) → PlanAt K H2 p d rs → GoodB rs → 1 ≤ d → d ≤ 30 →
        (tSeq (tPar 3 4 (tCons (tCall (sp_law_made K) [] C8.E0 (tCons (tVar 0) (tCons (tVar 1) tNil))) (tCons (tM1 (rJoin K) (tC (V.str "\n")) (tCall (sp_law_lines K) [] C8.E0 (tCons (tVar 1) tNil))) tNil))) (tSeq (tAsg (tCall (sp_read_book K) [] C8.E0 (tCons (tVar 4) tNil)) (gName 5)) (tSeq (tIfS (tOr (tNot (tB (tCall (sp_law_alike K) [] C8.E0 (tCons (tLst (tCons (tMeth (He.ga K "Book") "days" (sp_Book_days K) [] C8.E0 (tVar 5) tNil) (tCons (tMeth (He.ga K "Book") "rules" (sp_Book_rules K) [] C8.E0 (tVar 5) tNil) tNil))) (tCons (tLst (tCons (tOp (rIxT K) (tVar 1) (tC (V.int 0))) (tCons (tOp (rIxT K) (tVar 1) (tC (V.int 1))) tNil))) tNil))))) (tNot (tB (tCall (sp_law_alike K) [] C8.E0 (tCons (tOp (rEqG (DIns (He.ga K "Book") (EqBook K))) (tVar 5) (tVar 3)) (tCons (tC (V.bl true)) tNil)))))) (tRet (tC (V.bl false))) tNext) (tSeq (tIfS (tOr (tTest (tOp rNe (tCall (sp_book_text K) [] C8.E0 (tCons (tVar 5) tNil)) (tVar 4))) (tTest (tOp rNe (tCall (sp_book_text K) [] C8.E0 (tCons (tVar 3) tNil)) (tVar 4)))) (tRet (tC (V.bl false))) tNext) (tSeq (tAsg (tCall (sp_law_acts K) [] C8.E0 (tCons (tVar 0) (tCons (tOp (rIxT K) (tVar 1) (tC (V.int 0))) tNil))) (gName 6)) (tSeq (tAsg (tM1 (rJoin K) (tC (V.str "\n")) (tLc (iList K (tVar 6)) (gName 8) tYes (tCall (sp_law_deed_line K) [] C8.E0 (tCons (tVar 8) tNil)) (List.map (fun x => x.snd) [(("act" : Str), 8)]))) (gName 7)) (tSeq (tAsg (tCall (sp_read_deeds K) [] C8.E0 (tCons (tVar 7) tNil)) (gName 9)) (tSeq (tIfS (tOr (tNot (tB (tCall (sp_law_alike K) [] C8.E0 (tCons (tVar 9) (tCons (tVar 6) tNil))))) (tOr (tTest (tOp rNe (tCall (sp_deeds_text K) [] C8.E0 (tCons (tVar 9) tNil)) (tVar 7))) (tTest (tOp rNe (tCall (sp_deeds_text K) [] C8.E0 (tCons (tVar 6) tNil)) (tVar 7))))) (tRet (tC (V.bl false))) tNext) (tSeq (tPar3 10 11 12 (tCons (tLst (tCons (tC (V.bl false)) (tCons (tLst tNil) (tCons (tC (V.str "free")) (tCons (tLst tNil) (tCons (tC V.non) (tCons (tC V.non) tNil))))))) (tCons (tLst tNil) (tCons (tC (V.int 0)) tNil)))) (tSeq (tFor (iList K (tVar 6)) (gName 8) (tSeq (tAsg (tOp (rI0 fun i j => V.int (i + j)) (tVar 12) (tCB (fun xs H Q => (∃ i, xs = [V.int i] ∧ Q (V.int i) H) ∨ ∃ k, xs = [V.bl k] ∧ Q (V.int (if k = true then 1 else 0)) H) (tCons (tOp rEq (tOp (rIxT K) (tVar 8) (tC (V.int 0))) (tC (V.str "bring"))) tNil))) (gName 12)) (tDrop (tBM K "list" rAppend (tVar 11) (tCons (tCall (sp_law_report K) [] C8.E0 (tCons (tVar 10) (tCons (tVar 1) (tCons (tVar 8) (tCons (tVar 12) tNil))))) tNil))))) (tSeq (tAsg (tTup (tCons (tOp (rIxL K) (tVar 10) (tC (V.int 0))) (tCons (tOp (rIxL K) (tVar 10) (tC (V.int 1))) (tCons (tOp (rIxL K) (tVar 10) (tC (V.int 2))) (tCons (tOp (rIxL K) (tVar 10) (tC (V.int 3))) (tCons (tOp (rIxL K) (tVar 10) (tC (V.int 4))) tNil)))))) (gName 13)) (tSeq (tPar 14 15 (tCons (tCall (sp_play K) [] C8.E0 (tCons (tVar 5) (tCons (tVar 9) tNil))) (tCons (tCall (sp_boxes K) [] C8.E0 (tCons (tVar 5) (tCons (tVar 9) tNil))) tNil))) (tSeq (tIfS (tOr (tNot (tB (tCall (sp_law_alike K) [] C8.E0 (tCons (tVar 14) (tCons (tVar 11) tNil))))) (tOr (tNot (tB (tCall (sp_law_alike K) [] C8.E0 (tCons (tCall (sp_play K) [] C8.E0 (tCons (tVar 3) (tCons (tVar 6) tNil))) (tCons (tVar 11) tNil))))) (tNot (tB (tCall (sp_law_alike K) [] C8.E0 (tCons (tVar 9) (tCons (tVar 6) tNil))))))) (tRet (tC (V.bl false))) tNext) (tSeq (tIfS (tOr (tNot (tB (tCall (sp_law_alike K) [] C8.E0 (tCons (tVar 15) (tCons (tVar 13) tNil))))) (tNot (tB (tCall (sp_law_alike K) [] C8.E0 (tCons (tCall (sp_boxes K) [] C8.E0 (tCons (tVar 3) (tCons (tVar 6) tNil))) (tCons (tVar 13) tNil)))))) (tRet (tC (V.bl false))) tNext) (tSeq (tDrop (tBM K "list" rAppend (tVar 14) (tCons (tC (V.int 7)) tNil))) (tSeq (tDrop (tBM0 K "list" rClear (tVar 9))) (tSeq (tDrop (tBM K "list" rAppend (tOp (rIxT K) (tVar 15) (tC (V.int 1))) (tCons (tC (V.int 0)) tNil))) (tSeq (tAsg (tCall (sp_read_deeds K) [] C8.E0 (tCons (tVar 7) tNil)) (gName 16)) (tRet (tAndV (tCall (sp_law_alike K) [] C8.E0 (tCons (tCallK (sp_play K) kwI C8.E0 tNil (tCons (tVar 5) (tCons (tVar 16) tNil))) (tCons (tVar 11) tNil))) (tCall (sp_law_alike K) [] C8.E0 (tCons (tCallK (sp_boxes K) kwI C8.E0 tNil (tCons (tVar 5) (tCons (tVar 16) tNil))) (tCons (tVar 13) tNil))))))))))))))))))))))) { nx := fun x H' => Q V.non H', rt := Q } [some (.ref a), some (.ref p), o2, none, none, none, none, none, none, none, none, none, none, none, none, none, none] H2 := by
      intro H2 p d rs o2 b2 s2 hp hg h1 h2
      refine ⟨_, rfl, _, rfl, a, p, _, d, rs, rfl, s2, by omega, hp, hg, h1, h2, fun H3 wk b3 s3 hw => ?_⟩
      have p3 := hp.draw b3 s2
      refine ⟨⟨_, rfl⟩, _, rfl, p, d, rs, rfl, p3, hg, h1, h2, fun H4 L y4 hL => ?_⟩
      refine ⟨"\n", L, linesS d rs, rfl, rfl, .inl (SqL.of hL), book_pre hg h1 h2, ⟨_, _, rfl, ?_⟩⟩
      refine ⟨_, rfl, d, rs, rfl, hg, h1, h2, fun H5 rd hrd y5 hR => ?_⟩
      have y35 := y4.trans y5
      have p5 := p3.same y35
      have w5 := hw.same y35
      obtain ⟨dx, _, _, hx, _⟩ := id hR
      obtain ⟨dw, _, _, hwx, _⟩ := id w5
      obtain ⟨t1, as1, hq1, ht1, h31⟩ := id p5
      refine ⟨_, rfl, rd, dx, _, rfl, hx, rfl, rd, d, rs, rfl, hR, ?_⟩
      refine ⟨_, rfl, rd, dx, _, rfl, hx, rfl, rd, d, rs, rfl, hR, fun t as hta h3a => ?_⟩
      refine ⟨by show 2 ≤ sizeLine; decide, fun X hX => ?_⟩
      have yX := same_new (o := .lst [.int d, .ref t]) hX
      refine ⟨_, rfl, p, _, 0, _, rfl, rfl, same_tup yX hq1, rfl, _, rfl, p, _, 1, _, rfl, rfl, same_tup yX hq1, rfl, by show 2 ≤ sizeLine; decide, fun Y hY => ?_⟩
      have yY := same_new (o := .lst [.int d, .ref t1]) hY
      have yXY := yX.trans yY
      have hX2 : upd (upd H5 X (.lst [.int d, .ref t])) Y (.lst [.int d, .ref t1]) X = some (.lst [.int d, .ref t]) := yY _ _ upd_same
      refine ⟨.ref X, .ref Y, .list [.int d, rulesD rs], rfl, .lst (SqL.of hX2) (.cons (.int d) (.cons (dp_rules (same_tup yXY hta) (paired_map (fun _ _ _ x => same_tup yXY x) h3a)) .nil)), .lst (SqL.of upd_same) (.cons (.int d) (.cons (dp_rules (same_tup yXY ht1) (paired_map (fun _ _ _ x => same_tup yXY x) h31)) .nil)), ?_, fun H6 y6 => ⟨true, rfl, ?_⟩⟩
      · refine ⟨by show 2 ≤ 100000; decide, fun e he => ?_⟩
        rcases List.mem_cons.mp he with z | he
        · rw [z]; exact trivial
        · rw [List.mem_singleton.mp he]; exact sz_rules hg 1
      have y56 := yXY.trans y6
      refine ⟨_, rfl, _, rfl, ⟨rd, wk, dx, dw, _, _, rfl, rfl, y56 _ _ hx, y56 _ _ hwx, d, rs, hR.same y56, w5.same y56, hg⟩, fun H7 e7 => ?_⟩
      refine ⟨_, _, .bool true, rfl, .bl true, .bl true, trivial, fun H8 y8 => ⟨true, rfl, ?_⟩⟩
      have y58 := (y56.trans (show Same H6 H7 from e7)).trans y8
      have tr : (!decide (V.str (bookS d rs) = V.str (Txt.join "\n" (linesS d rs)))) = false := by rw [decide_eq_true (show V.str (bookS d rs) = V.str (Txt.join "\n" (linesS d rs)) from rfl)]; rfl
      refine ⟨_, rfl, rd, d, rs, rfl, hR.same y58, hg, h1, h2, fun H9 y9 => ⟨_, rfl, rfl, _, rfl, ?_⟩⟩
      rw [tr]
      have y59 := y58.trans y9
      refine ⟨_, rfl, wk, d, rs, rfl, w5.same y59, hg, h1, h2, fun HA yA => ⟨_, rfl, rfl, _, rfl, ?_⟩⟩
      rw [tr]
      have y5A := y59.trans yA
      exact rest2 HA p wk rd d rs o2 ((b2.trans b3).trans (But.of (y35.trans y5A))) (s3.same (y35.trans y5A)) (p5.same y5A) hg h1 h2 (w5.same y5A) (hR.same y5A)
    refine ⟨_, rfl, a, _, 2, rfl, s1, lt100 _ (by omega), by decide, by decide, fun H2 k b2 s2 k0 k1 => ⟨rfl, _, rfl, L2.ite2 (fun _ => ?_) (fun _ => ?_)⟩⟩
    · have p2 := hp1.draw b2 s1
      refine ⟨by show 2 ≤ sizeLine; decide, fun v1 hv1 => ⟨by show 2 ≤ sizeLine; decide, fun v2 hv2 => ⟨by show 3 ≤ sizeLine; decide, fun v3 hv3 => ⟨by show 3 ≤ sizeLine; decide, fun u hu => ?_⟩⟩⟩⟩
      have y1 := same_new (o := .tup [.str "void", .str "full"]) hv1
      have y2 := same_new (o := .tup [.str "look", .str "code"]) hv2
      have y3 := same_new (o := .tup [.str "lock", .str "look", .str "code"]) hv3
      have yu := same_new (o := .tup [V.ref v1, .ref v2, .ref v3]) hu
      have yA := ((y1.trans y2).trans y3).trans yu
      have g1 : RuleAt K (upd (upd (upd (upd H2 v1 (.tup [.str "void", .str "full"])) v2 (.tup [.str "look", .str "code"])) v3 (.tup [.str "lock", .str "look", .str "code"])) u (.tup [V.ref v1, .ref v2, .ref v3])) v1 ["void", "full"] := SqT.of (yu _ _ (y3 _ _ (y2 _ _ upd_same)))
      have g2 : RuleAt K (upd (upd (upd (upd H2 v1 (.tup [.str "void", .str "full"])) v2 (.tup [.str "look", .str "code"])) v3 (.tup [.str "lock", .str "look", .str "code"])) u (.tup [V.ref v1, .ref v2, .ref v3])) v2 ["look", "code"] := SqT.of (yu _ _ (y3 _ _ upd_same))
      have g3 : RuleAt K (upd (upd (upd (upd H2 v1 (.tup [.str "void", .str "full"])) v2 (.tup [.str "look", .str "code"])) v3 (.tup [.str "lock", .str "look", .str "code"])) u (.tup [V.ref v1, .ref v2, .ref v3])) v3 ["lock", "look", "code"] := SqT.of (yu _ _ upd_same)
      have gu : SqT K (upd (upd (upd (upd H2 v1 (.tup [.str "void", .str "full"])) v2 (.tup [.str "look", .str "code"])) v3 (.tup [.str "lock", .str "look", .str "code"])) u (.tup [V.ref v1, .ref v2, .ref v3])) u [V.ref v1, .ref v2, .ref v3] := SqT.of upd_same
      have pA := p2.same yA
      have bA := (b1.trans b2).trans (But.of yA)
      have sA := s2.same yA
      show Ends.nx _ _ (upd (upd (upd (upd H2 v1 (.tup [.str "void", .str "full"])) v2 (.tup [.str "look", .str "code"])) v3 (.tup [.str "lock", .str "look", .str "code"])) u (.tup [V.ref v1, .ref v2, .ref v3]))
      generalize upd (upd (upd (upd H2 v1 (.tup [.str "void", .str "full"])) v2 (.tup [.str "look", .str "code"])) v3 (.tup [.str "lock", .str "look", .str "code"])) u (.tup [V.ref v1, .ref v2, .ref v3]) = HA at g1 g2 g3 gu pA bA sA
      obtain ⟨tp, asp, hqp, htp, h3p⟩ := id pA
      refine ⟨_, rfl, p1, _, 0, _, rfl, rfl, hqp, rfl, d1, 3, rfl, rfl, (show (0 : Int) < 3 by decide), _, _, rfl, rfl, ?_⟩
      refine ⟨_, rfl, _, rfl, p1, _, 1, _, rfl, rfl, hqp, rfl, _, rfl, ?_⟩
      refine slA_from (i := 3) htp fun m5 HB zB hm5 => ?_
      refine catA_of (same_tup zB gu) hm5 (by rw [List.length_drop, List.length_map, ← h3p.length.symm, hg1.len]; show 3 + (8 - 3) ≤ sizeLine; decide) fun m6 HC zC hm6 => ?_
      refine ⟨by show 2 ≤ sizeLine; decide, fun pn hpn => ?_⟩
      have yn := same_new (o := .tup [.int (1 + d1 % 3), .ref m6]) hpn
      have yAll := (zB.trans zC).trans yn
      refine rest1 _ pn (1 + d1 % 3) (["void", "full"] :: ["look", "code"] :: ["lock", "look", "code"] :: rs1.drop 3) _ (bA.trans (But.of yAll)) (sA.same yAll) ⟨m6, v1 :: v2 :: v3 :: asp.drop 3, SqT.of upd_same, ?_, ?_⟩ (usual_good hg1) (by omega) (by omega)
      · have e : (v1 :: v2 :: v3 :: asp.drop 3).map V.ref = [V.ref v1, .ref v2, .ref v3] ++ (asp.map V.ref).drop 3 := by rw [← List.map_drop]; rfl
        rw [e]
        exact same_tup yn hm6
      · exact .cons (same_tup yAll g1) (.cons (same_tup yAll g2) (.cons (same_tup yAll g3) (paired_drop 3 (paired_map (fun _ _ _ x => same_tup yAll x) h3p))))
    · exact rest1 H2 p1 d1 rs1 _ (b1.trans b2) s2 (hp1.draw b2 s1) hg1 h11 h12
theorem c_law_right (T : Txt w K mg) : C8.Cal P w K mg base 9 "_law_right" (sp_law_right K) [] := by
  obtain ⟨fd, F⟩ := T.f_law_right
  exact ⟨_, fd, _, _, ok_law_right T F, T.g_law_right, F.kp, F.bindsN (fun _ _ _ _ _ _ us hl => match us, hl with | [_], _ => rfl), .nil⟩
def sp_law (K : PySem.W.Frag) : Sp := fun vs H Q _ => ∃ (a : Addr) (ns : List Int), vs = [.ref a] ∧ SqL K H a (ns.map V.int) ∧ ns.length ≤ 63 ∧ ∀ H', Q (.bl true) H'
set_option maxHeartbeats 2000000 in
theorem ok_law (T : Txt w K mg) {fd : FuncData} (F : FunD K d_law.name d_law.qual d_law.params d_law.body d_law.scope (d_law.dvs K) (d_law.kws K) (He.fAd K d_law.at_) fd) : FnOk P w K mg base C8.CX0 10 (He.fAd K d_law.at_) fd ["script"] (sp_law K) := by
  have c_law_right := c_law_right (P := P) (w := w) (base := base) T
  have c_law_pot := c_law_pot (P := P) (w := w) (base := base) T
  refine F.ok sc_law (fun vs H Q E h => ?_) (fun cdv A outer s H vs Q E hr h => ?_)
  · obtain ⟨a, ns, rfl, _⟩ := h
    rfl
  · have hu := L2.hu_of hr
    obtain ⟨a, ns, rfl, hS, hl, q⟩ := h
    refine ⟨_, (PSs.nox ((pss_cons (ps_for PassesOwn.never rfl (pi_range1 (by rfl) T.range (pa_cons (pe_callB (call_max2 rfl) (by rfl) T.max (by decide +kernel) (pa_cons pe_int (pa_cons (pe_callB (call_min2 rfl) (by rfl) T.min (by decide +kernel) (pa_cons pe_int (pa_cons (pe_callB (My.len_seqK (K := K) rfl) (by rfl) T.len (by decide +kernel) (pa_cons (pv 0) pa_nil)) pa_nil))) pa_nil))) pa_nil)) (pg_name (i := 1) sc_law.nd rfl (by first | exact Or.inl rfl | exact Or.inr rfl))
  (pss_one (ps_if (pt_not (pt_val (C8.pe_c c_law_right hr (by decide) rfl (pa_cons (C8.pe_c c_law_pot hr (by decide) rfl (pa_cons (pv 0) (pa_cons (pv 1) pa_nil))) pa_nil))))
  (pss_one (ps_ret pe_bl))
  pss_nil)))
  (pss_one (ps_ret pe_bl))))), ?_⟩
    obtain ⟨m, hm, hm1, hm2⟩ : ∃ m : Nat, (if (if (((ns.map V.int).length : Nat) : Int) < 4 then (((ns.map V.int).length : Nat) : Int) else 4) > 1 then (if (((ns.map V.int).length : Nat) : Int) < 4 then (((ns.map V.int).length : Nat) : Int) else 4) else 1) = (m : Int) ∧ 1 ≤ m ∧ m ≤ 4 := by
      rw [List.length_map]
      split <;> split <;> first | exact ⟨ns.length, by omega, by omega, by omega⟩ | exact ⟨1, by omega, by omega, by omega⟩ | exact ⟨4, by omega, by omega, by omega⟩
    refine ⟨_, rfl, a, _, rfl, .inl hS, _, _, rfl, _, _, rfl, (m : Int), (by rw [hm]), by omega, by omega, ?_⟩
    refine for_range (n := (m : Int).toNat) (fun i σ H' => ∃ o, σ = [some (.ref a), o] ∧ Same H H') ⟨_, rfl, Same.refl _⟩ ?_ ?_
    · rintro i σ H2 hi ⟨o, rfl, s2⟩
      refine ⟨_, rfl, _, rfl, a, ns, _, rfl, s2.seq hS, by omega, by omega, fun H3 p hp s3 hsp => ?_⟩
      refine ⟨p, 0, rfl, hsp, by decide, fun H4 b4 => ⟨true, rfl, _, rfl, fun c o e => ?_⟩⟩
      have e2 := s2 _ _ e
      exact b4 _ _ (fun z => by rw [List.mem_singleton.mp z, hp] at e2; cases e2) (s3 _ _ e2)
    · rintro σ H2 ⟨o, rfl, s2⟩
      exact q _
theorem c_law (T : Txt w K mg) : C8.Cal P w K mg base 10 "law" (sp_law K) [] := by
  obtain ⟨fd, F⟩ := T.f_law
  exact ⟨_, fd, _, _, ok_law T F, T.g_law, F.kp, F.bindsN (fun _ _ _ _ _ _ us hl => match us, hl with | [_], _ => rfl), .nil⟩
end
end K15

namespace K15
open PySem PySem.Spec PyProof.Rows L2 My
abbrev spLaw (K : PySem.W.Frag) : Sp := sp_law K
theorem law_end {P : Program} {w : World} {K : PySem.W.Frag} {mg : Str → Option Value} {fa : Addr} (T : Txt w K mg) (hmg : mg ("law" : Str) = some (.ref fa)) :
    ∃ fd, (∀ (s : Shared) (u : Value), BindsTo s fd ⟨[u], []⟩ [("script", u)]) ∧ ∀ base : Heap, K.In base → base.Ns mainGlobals mg → FnOk P w K mg base L2.CX0 10 fa fd ["script"] (spLaw K) := by
  obtain ⟨fd, F⟩ := T.f_law
  have e : fa = He.fAd K d_law.at_ := by
    have h := T.g_law
    rw [hmg] at h
    exact Value.ref.inj (Option.some.inj h)
  subst e
  exact ⟨fd, fun s u => F.bindsA (ps := ["script"]) (fun _ _ _ _ _ _ us hl => match us, hl with | [_], _ => rfl) s [u] rfl, fun base _ _ => ok_law T F⟩
end K15

open PySem PySem.W PySem.Calls PyProof.Rows in
set_option maxRecDepth 100000 in
set_option maxHeartbeats 0 in
theorem PySem.Challenge.cw_lockerwall_k15_whole_read_books_played_holds : PySem.Challenge.rw_lockerwall_k15_whole_read_books_played.Holds := by
  w_on; o_law
  refine HandSHeadRun.head_any (r := OpenLaw.row PySem.Challenge.rw_lockerwall_k15_whole_read_books_played) (q := view (OpenLaw.row PySem.Challenge.rw_lockerwall_k15_whole_read_books_played).prog [70]) (H := K15.hk) (ob := K15.ob) (M := 6000) (loose := K15.loose) (d := HandSHeadRun.topDef (OpenLaw.row PySem.Challenge.rw_lockerwall_k15_whole_read_books_played).prog 70) (kwd := []) K15.ob_eq
    (by kernel_rfl) (fun s => by kernel_rfl) K15.run (by kernel_rfl) (by kernel_rfl) (by kernel_rfl) (by rfl) (by first | assumption | decide +kernel) (by decide +kernel) ⟨rfl, rfl, rfl, rfl, rfl, by decide +kernel⟩ ?hw ?hc
  case hw => w_witness2
  case hc =>
    refine L2.walk_ofE (l := PySem.Challenge.rw_lockerwall_k15_whole_read_books_played) (n := 63) (k := 10) (x := "script") (CX := L2.CX0) rfl (by decide) (by kernel_rfl) ⟨rfl, by decide, by decide⟩ ?F (fun _ _ _ _ z => z)
    intro w mg fa h Y G hmg0
    obtain ⟨K, KX, ⟨c, e⟩, tb⟩ := Y
    have hmg : mg ("law" : PySem.Str) = some (.ref fa) := by
      have e : (HandSHeadRun.topDef (OpenLaw.row PySem.Challenge.rw_lockerwall_k15_whole_read_books_played).prog 70).name = ("law" : PySem.Str) := by kernel_rfl
      rw [← e]
      exact hmg0
    obtain ⟨fd, hb, hF⟩ := K15.law_end (P := (PySem.Challenge.rw_lockerwall_k15_whole_read_books_played).prog) (w := w) ⟨⟨h, KX, G, c, e⟩, tb⟩ hmg
    exact ⟨K, fd, K15.spLaw K, KX, hb, fun H a ns hl hO hS => ⟨a, ns, rfl, hS, hl, fun _ => rfl⟩, hF⟩

