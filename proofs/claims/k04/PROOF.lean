import PyProof.Rows.All
import Wide.All
import OpenK.AllK
import Wide.FinOn
import HandS.ForMost
import HandS.Wide
import HandS.IsInst
import HandS.Defaults
import HandS.Zip
import HandS.Conv
import HandS.More
import HandS.Flow
import HandS.Evl
import HandS.Replace
import HandS.Codes
import HandS.Style
import KE.KRevSl
import HandS.HeadHook1
import HandS.HeadHook2
import HandS.Head2
import HandS.HeadEnd
import PyProof.ListStr
import PySem.Challenge.RW_twofarplayers_k04_whole_least_losses_and
set_option Elab.async false
set_option linter.all false
set_option maxRecDepth 100000
set_option maxHeartbeats 2000000
/-! rules of my own, and short words, for the laws of Twofarplayers -/
namespace Tf
open PySem PySem.Spec PyProof.Rows L2

/-! ### more rules -/
section
variable {X : Cx}
/-- ** of a great base -/
def CPowW (i j : Int) : Prop := 0 ≤ j ∧ (Builtin.Int.intBits i : Int) * j ≤ 2 ^ 27
theorem op_powW : OpR X (binaryOp .Pow) (rI CPowW fun i j => .int (i ^ j.toNat)) := opI fun _ _ _ _ _ _ _ hc q => pow_int hc.1 hc.2 q
def rMulS : R2 := fun x y H Q => ∃ z n, x = .str z ∧ y = .int n ∧ MulOk z n ∧ Q (.str (Txt.mul z n)) H
theorem op_mul_str : OpR X (binaryOp .Mult) rMulS := by
  intro pins s σ H x y v u Q I rx ry h
  obtain ⟨z, n, rfl, rfl, ok, q⟩ := h
  obtain ⟨t, rfl⟩ := rx
  obtain ⟨t', rfl⟩ := ry
  exact SB.mul ok fun t' k => ⟨.str _, H, I.tok _, ⟨_, rfl⟩, q⟩
/-- the signs of a text, a list -/
def signsV (z : Str) : List V := z.cps.toList.map fun c => V.str ⟨#[c]⟩
theorem vals_signs {z : Str} {acc : Array Value} (h : ItemsOf (SignAt z) acc z.cps.size) : Vals (signsV z) acc.toList := by
  have key : ∀ (cs : List Nat) (us : List Value), us.length = cs.length → (∀ (j : Nat) (v : Value), us[j]? = some v → ∃ c u, cs[j]? = some c ∧ v = .str ⟨#[c]⟩ u) → Vals (cs.map fun c => V.str ⟨#[c]⟩) us := by
    intro cs
    induction cs with
    | nil =>
      intro us hl _
      cases us with
      | nil => exact .nil
      | cons _ _ => cases hl
    | cons c cs ih =>
      intro us hl hv
      cases us with
      | nil => cases hl
      | cons u us =>
        obtain ⟨c', t, e1, e2⟩ := hv 0 u rfl
        have e3 : c = c' := Option.some.inj e1
        subst e3
        exact .cons ⟨t, e2⟩ (ih us (Nat.succ.inj hl) fun j v e => hv (j + 1) v e)
  refine key z.cps.toList acc.toList (by simpa using h.1) fun j v e => ?_
  obtain ⟨c, u, e1, e2⟩ := h.2 j v (by simpa using e)
  exact ⟨c, u, by simpa using e1, e2⟩
def rListStr : List V → Hp → VK → Prop := fun xs H Q => ∃ z, xs = [.str z] ∧ z.length ≤ sizeLine ∧ ∀ l, H l = none → Q (.ref l) (upd H l (.lst (signsV z)))
theorem call_list_txt (hc : X.calm = true) : CallR X (.type "list") rListStr := by
  intro pins s σ H xs us Q I r h
  obtain ⟨z, rfl, hz, q⟩ := h
  obtain ⟨u, rfl, t, rfl⟩ := vals1 r
  refine call_list_str (I.ok.hd hc) z t (hn := hz) fun h' tk acc' c' kp e hacc => ?_
  have r' := vals_signs hacc
  have hlen := r'.length
  refine ⟨.ref s.heap.objs.size, _, I.laid (t' := tk) kp (Nat.le_refl _) (show ObjOk X.prog X.w _ h' _ (.lst (signsV z)) from ⟨?_, acc'.toList, c', r', by simpa using e⟩), rfl, q _ (I.hok.fresh (Nat.le_refl _))⟩
  rw [hlen]
  have := hacc.1
  simp only [Array.length_toList]
  rw [this]
  exact hz
end
/-! ### calls by keywords alone -/
section
variable {X : Cx} {CX : CXT} {k n : Nat} {f : Addr} {fd : FuncData} {ps ks : List Str} {sp : Sp} {E : XK} {x : Str} {p pos : Pos} {kws : List Keyword} {tk : TA} {g : List Value → List Value → List Value} {gV : List V → List V → List V}
theorem pe_callN0 (F : FnOk X.prog X.w X.K X.mg X.base CX k f fd ps sp) (hr : Room k X.A) (hg : Gl X x) (hm : X.mg x = some (.ref f)) (hk : PySem.W.keepIn X.K (.ref f) = true) (hb : KBn X.K fd ps 0 ks g gV) (hx : Passes CX X E)
    (hkw : PK X kws tk) (hall : (backToKw pos (keywordEach kws X.env)).all (·.1.isSome) = true := by rfl) (hks : (backToKw pos (keywordEach kws X.env)).filterMap (·.1) = ks := by rfl)
    (hdb : (x == ("__debug__" : Str)) = false := by decide)
    (hpl : ((backTo pos (starEach [] X.env)).any (·.1) || (backToKw pos (keywordEach kws X.env)).any (·.1.isNone)) = false := by rfl) :
    PE X (.Call (.Name x p) [] kws pos) (tCallN 0 ks.length sp gV E tNil tk) := by
  refine ⟨fun pins s σ H Q I h => ?_⟩
  refine wpAny_Call_Name_kw (ld_glob I hg hm ?_ hdb)
  refine PySem.W.callWith_KW0 (h₀ := X.base) I.ok.mod.kin hk hall ?_ hpl
  refine thn (hkw.run pos pins s σ H _ I h) fun ws s2 ⟨zs, H2, I2, rz, l1, l2, q2⟩ => ⟨I2.kIn, ?_⟩
  rw [hks]
  exact run_fnN F hr hb hx I2 (us := []) (vs := []) .nil rz rfl l2 q2
end
section
variable {K : PySem.W.Frag} {x qual : Str} {params : Arguments} {body : List Stmt} {scope : Scope} {f : Addr} {fd : FuncData} {ps : List Str}
theorem kbN (F : FunD K x qual params body scope [] [] f fd) (n : Nat) (ks : List Str) (g : {α : Type} → List α → List α → List α)
    (hrel : ∀ {vs zs : List V} {us ws : List Value}, Vals vs us → Vals zs ws → Vals (g vs zs) (g us ws))
    (h : ∀ (kV doc pm : Value) (an : Option Addr) (cdv ct : Value) (us ws : List Value), us.length = n → ws.length = ks.length → bindArgs (PySem.W.fnOf x qual params body scope .none kV doc pm an cdv ct) ⟨us, ks.zip ws⟩ = pure (ps.zip (g us ws))) :
    KBn K fd ps n ks (fun us ws => g us ws) (fun vs zs => g vs zs) := by
  obtain ⟨oc, od, dV, kV, doc, pm, an, cdv, ct, osl, rfl, lk, hcd, hD, hK⟩ := F.ex
  rcases hD with ⟨_, rfl⟩ | ⟨e, _⟩
  · exact ⟨fun s us ws X l1 l2 => .of_eq (h kV doc pm an cdv ct us ws l1 l2), fun r1 r2 => hrel r1 r2⟩
  · exact absurd rfl e
end

/-! ### a def that is there, and its promise -/
abbrev FnP (K : PySem.W.Frag) (x : Str) (st : Stmt) (f : Addr) (fd : FuncData) : Prop := FunD K x x (defArgs st) (defBody st) (defScope st) [] [] f fd
/-- where the def stands, how it is bound, and what it promises -/
structure Ok (P : Program) (w : World) (K : PySem.W.Frag) (mg : Str → Option Value) (base : Heap) (CX : CXT) (k : Nat) (x : Str) (st : Stmt) (ps : List Str) (sp : Sp) : Prop where
  ex : ∃ f fd, mg x = some (.ref f) ∧ FnP K x st f fd ∧ Binds K fd ps [] ∧ FnOk P w K mg base CX k f fd ps sp
section
variable {X : Cx} {CX : CXT} {k j n : Nat} {st : Stmt} {ps ks : List Str} {sp : Sp} {E : XK} {x : Str} {p pos : Pos} {e : Expr} {es : List Expr} {kws : List Keyword} {t tk : TA} {g : {α : Type} → List α → List α → List α}
theorem pe_cl (F : Ok X.prog X.w X.K X.mg X.base CX k x st ps sp) (hr : Room j X.A) (hg : Gl X x) (hx : Passes CX X E) (ha : PA X (e :: es) t) (hj : k ≤ j := by decide)
    (hdb : (x == ("__debug__" : Str)) = false := by decide) (he : starEach (e :: es) X.env = (false, eval e X.env) :: starEach es X.env := by rfl) (hpl : ((backTo pos (starEach (e :: es) X.env)).any (·.1) || (backToKw pos (keywordEach [] X.env)).any (·.1.isNone)) = false := by rfl) :
    PE X (.Call (.Name x p) (e :: es) [] pos) (tCall sp [] E t) := by
  obtain ⟨f, fd, g, D, b, F⟩ := F.ex
  exact pe_call F (hr.mono hj) hg g D.kp b .nil hx ha hdb he (by
    have h : ((backTo pos (starEach (e :: es) X.env)).any (·.1)) = false := (Bool.or_eq_false_iff.mp hpl).1
    rw [he] at h
    unfold backTo at h ⊢
    simpa using h)
theorem pe_clK0 (F : Ok X.prog X.w X.K X.mg X.base CX k x st ps sp) (hr : Room j X.A) (hg : Gl X x) (hx : Passes CX X E) (hb : ∀ f fd, FnP X.K x st f fd → KBn X.K fd ps 0 ks (fun us ws => g us ws) (fun us ws => g us ws)) (hkw : PK X kws tk) (hj : k ≤ j := by decide)
    (hall : (backToKw pos (keywordEach kws X.env)).all (·.1.isSome) = true := by rfl) (hks : (backToKw pos (keywordEach kws X.env)).filterMap (·.1) = ks := by rfl)
    (hdb : (x == ("__debug__" : Str)) = false := by decide)
    (hpl : ((backTo pos (starEach [] X.env)).any (·.1) || (backToKw pos (keywordEach kws X.env)).any (·.1.isNone)) = false := by rfl) :
    PE X (.Call (.Name x p) [] kws pos) (tCallN 0 ks.length sp (fun us ws => g us ws) E tNil tk) := by
  obtain ⟨f, fd, gg, D, b, F⟩ := F.ex
  exact pe_callN0 F (hr.mono hj) hg gg D.kp (hb f fd D) hx hkw hall hks hdb hpl
theorem pe_clK (F : Ok X.prog X.w X.K X.mg X.base CX k x st ps sp) (hr : Room j X.A) (hg : Gl X x) (hx : Passes CX X E) (hb : ∀ f fd, FnP X.K x st f fd → KBn X.K fd ps n ks (fun us ws => g us ws) (fun us ws => g us ws)) (ha : PA X (e :: es) t) (hkw : PK X kws tk) (hj : k ≤ j := by decide)
    (hall : (backToKw pos (keywordEach kws X.env)).all (·.1.isSome) = true := by rfl) (hks : (backToKw pos (keywordEach kws X.env)).filterMap (·.1) = ks := by rfl)
    (hdb : (x == ("__debug__" : Str)) = false := by decide) (he : starEach (e :: es) X.env = (false, eval e X.env) :: starEach es X.env := by rfl)
    (hpl : ((backTo pos (starEach (e :: es) X.env)).any (·.1) || (backToKw pos (keywordEach kws X.env)).any (·.1.isNone)) = false := by rfl) :
    PE X (.Call (.Name x p) (e :: es) kws pos) (tCallN n ks.length sp (fun us ws => g us ws) E t tk) := by
  obtain ⟨f, fd, gg, D, b, F⟩ := F.ex
  exact pe_callN F (hr.mono hj) hg gg D.kp (hb f fd D) hx ha hkw hall hks hdb he hpl
end
section
variable {X : Cx} {x : Str} {pos : Pos}
theorem pe_gint {i : Int} (hg : Gl X x) (h : ∃ t, X.mg x = some (.int i t)) (hd : (x == ("__debug__" : Str)) = false := by decide) : PE X (.Name x pos) (tC (.int i)) := by
  obtain ⟨t, h⟩ := h
  exact pe_glob hg h ⟨_, rfl⟩ hd
theorem pe_gstr {z : Str} (hg : Gl X x) (h : ∃ t, X.mg x = some (.str z t)) (hd : (x == ("__debug__" : Str)) = false := by decide) : PE X (.Name x pos) (tC (.str z)) := by
  obtain ⟨t, h⟩ := h
  exact pe_glob hg h ⟨_, rfl⟩ hd
theorem pe_sindex {o e : Expr} {to te : TE} {apos : Pos} (ho : PE X o to) (he : PE X e te) (hs : starEach [e] X.env = [(false, eval e X.env)] := by rfl) (hbase : attributeBase o "index" X.env (eval o X.env) = eval o X.env := by rfl) (hline : (apos.endLine == pos.line) = true := by rfl) :
    PE X (.Call (.Attribute o "index" apos) [e] [] pos) (tM1 (fun x xs H Q => ∃ a b i rest, x = .str a ∧ xs = [.str b] ∧ Builtin.Str.occurrences a b 0 a.length 1 = i :: rest ∧ Q (.int (i : Nat)) H) to te) :=
  pe_m1 F.slot_str_index F.type_str_index mt_sindex ho he hs hbase hline
end

/-! ### texts by their codes -/
def S (l : List Nat) : Str := ⟨l.toArray⟩
theorem S_len (l : List Nat) : (S l).length = l.length := by unfold S Str.length; simp
theorem S_codes (l : List Nat) : (S l).cps.toList = l := by unfold S; simp
theorem S_app (a b : List Nat) : S a ++ S b = S (a ++ b) := by
  show (⟨_⟩ : Str) = ⟨_⟩
  simp [S]
theorem S_inj {a b : List Nat} (h : S a = S b) : a = b := by
  have e := congrArg (fun z : Str => z.cps.toList) h
  simpa [S] using e
theorem S_iff {a b : List Nat} : (V.str (S a) = V.str (S b)) ↔ a = b := ⟨fun h => S_inj (V.str.inj h), fun h => by rw [h]⟩
theorem S_of (z : Str) : z = S z.cps.toList := by cases z; simp [S]
theorem signs_S (l : List Nat) : signsV (S l) = l.map fun c => V.str (S [c]) := by unfold signsV; rw [S_codes]; rfl
theorem cut_S (l : List Nat) (lo hi : Option Int) : cutS (S l) lo hi = S ((l.drop (HT.sIx l.length 0 lo)).take (HT.sIx l.length l.length hi - HT.sIx l.length 0 lo)) := by
  unfold cutS
  rw [S_codes, S_len] <;> rfl
theorem sIx_le {n : Nat} {d : Nat} {i : Nat} (h : i ≤ n) : HT.sIx n d (some (i : Int)) = i := by
  rw [HT.sIx_nat]; omega
theorem cut_to {l : List Nat} {n : Nat} (h : n ≤ l.length) : cutS (S l) none (some (n : Int)) = S (l.take n) := by
  rw [cut_S, sIx_le h, HT.sIx_none]
  simp
theorem cut_from {l : List Nat} {n : Nat} (h : n ≤ l.length) : cutS (S l) (some (n : Int)) none = S (l.drop n) := by
  rw [cut_S, sIx_le h, HT.sIx_none]
  congr 1
  rw [List.take_of_length_le]
  rw [List.length_drop]
  omega
theorem fold_app (x : List Nat) : ∀ (n : Nat) (acc : Array Nat), (List.replicate n x.toArray).foldl (· ++ ·) acc = acc ++ ((List.replicate n x).flatten).toArray := by
  intro n
  induction n with
  | zero => intro acc; simp
  | succ n ih => intro acc; rw [List.replicate_succ, List.foldl_cons, ih, List.replicate_succ, List.flatten_cons]; simp [Array.append_assoc]
theorem mul_S (l : List Nat) (n : Nat) : Txt.mul (S l) (n : Int) = S ((List.replicate n l).flatten) := by
  unfold Txt.mul
  split
  · rename_i h
    have : n = 0 := by omega
    subst this
    rfl
  · split
    · rename_i h1 h2
      rw [Bool.or_eq_true] at h2
      rcases h2 with h2 | h2
      · have e : (n : Int) = 1 := by simpa using h2
        have : n = 1 := by omega
        subst this
        simp
      · have e : l.length = 0 := by rw [S_len] at h2; simpa using h2
        have : l = [] := List.eq_nil_of_length_eq_zero e
        subst this
        congr 1
        simp
    · show (⟨_⟩ : Str) = ⟨_⟩
      congr 1
      show ((List.replicate (n : Int).toNat l.toArray).foldl (· ++ ·) #[]) = _
      rw [Int.toNat_natCast, fold_app]
      simp
theorem mulok_S {l : List Nat} {n : Nat} (h : l.length * n ≤ 1000000) (hn : n ≤ 1000000) : MulOk (S l) (n : Int) := by
  refine ⟨by simp; omega, fun h1 h2 => ?_, fun h1 h2 => ?_⟩
  · rw [S_len]
    have h3 : (1 : Int) ≤ (n : Int) := by omega
    rw [Bool.or_eq_false_iff] at h2
    have h4 : l.length ≠ 0 := by
      have := h2.2
      rw [S_len] at this
      simpa using this
    have h5 : l.length ≤ 1000000 := by
      have : l.length * 1 ≤ l.length * n := Nat.mul_le_mul_left _ (by omega)
      omega
    have h6 : (2 ^ 63 - 1) / 1000000 ≤ ((2 ^ 63 - 1 : Int)) / (n : Int) := by
      have h7 : (0 : Int) < (n : Int) := by omega
      rw [Int.le_ediv_iff_mul_le h7]
      have h8 : (n : Int) ≤ 1000000 := by omega
      have h9 : ((2 ^ 63 - 1 : Int) / 1000000) * (n : Int) ≤ ((2 ^ 63 - 1 : Int) / 1000000) * 1000000 := Int.mul_le_mul_of_nonneg_left h8 (by decide)
      have h10 : ((2 ^ 63 - 1 : Int) / 1000000) * 1000000 ≤ 2 ^ 63 - 1 := by decide
      omega
    have h7 : (1000000 : Int) ≤ (2 ^ 63 - 1) / 1000000 := by decide
    omega
  · rw [S_len, Int.toNat_natCast]
    have h0 : sizeLine = 16777216 := by decide
    unfold PySem.Builtin.Str.tooLong
    simp
    omega
theorem joinL_nil : ∀ ys : List (List Nat), TL.joinL [] ys = ys.flatten
  | [] => rfl
  | [x] => by simp [TL.joinL]
  | x :: y :: r => by simp [TL.joinL, joinL_nil (y :: r)]
theorem join_S (ys : List (List Nat)) : Txt.join (S []) (ys.map S) = S ys.flatten := by
  have h : Txt.join (SX.S []) (ys.map SX.S) = SX.S (TL.joinL [] ys) := SX.join_S [] ys
  rw [joinL_nil] at h
  exact h
theorem pe_strS {X : Cx} {x : Str} {j pos} (l : List Nat) (h : x = S l) : PE X (.Constant (.str x) j pos) (tC (.str (S l))) := by
  subst h
  exact pe_str
theorem pe_gstrS {X : Cx} {x z : Str} {pos : Pos} (l : List Nat) (h : z = S l) (hg : Gl X x) (hm : ∃ t, X.mg x = some (.str z t)) (hd : (x == ("__debug__" : Str)) = false := by decide) : PE X (.Name x pos) (tC (.str (S l))) := by
  subst h
  exact pe_gstr hg hm hd
/-! ### the rules with named readings -/
def rIsT : R2 := fun x y H Q => ∃ a b, x = .ty a ∧ y = .ty b ∧ Q (.bl (decide (a = b))) H
def rNoT : R2 := fun x y H Q => ∃ a b, x = .ty a ∧ y = .ty b ∧ Q (.bl (!decide (a = b))) H
def rIN : R2 := fun x y H Q => y = .non ∧ Q (.bl (decide (x = .non))) H
def rNN : R2 := fun x y H Q => y = .non ∧ Q (.bl (!decide (x = .non))) H
def rInC : R2 := fun x y H Q => ∃ (c : Nat) (z : Str), x = .str ⟨#[c]⟩ ∧ y = .str z ∧ Q (.bl (decide (c ∈ z.cps.toList))) H
def rNinC : R2 := fun x y H Q => ∃ (c : Nat) (z : Str), x = .str ⟨#[c]⟩ ∧ y = .str z ∧ Q (.bl (!decide (c ∈ z.cps.toList))) H
def rAddS : R2 := fun x y H Q => ∃ i j, x = .str i ∧ y = .str j ∧ i.length + j.length ≤ sizeLine ∧ Q (.str (i ++ j)) H
def rLtS : R2 := fun x y H Q => ∃ i j, x = .str i ∧ y = .str j ∧ Q (.bl (decide (i.cps.toList < j.cps.toList))) H
abbrev RL := List V → Hp → VK → Prop
def rLnS : RL := fun xs H Q => ∃ z, xs = [.str z] ∧ z.length ≤ sizeLine ∧ Q (.int z.length) H
def rLnQ (K : PySem.W.Frag) : RL := fun xs H Q => ∃ p ys, xs = [.ref p] ∧ (SqL K H p ys ∨ SqT K H p ys) ∧ Q (.int ys.length) H
def rInt : RL := fun xs H Q => (∃ i, xs = [.int i] ∧ Q (.int i) H) ∨ ∃ k, xs = [.bl k] ∧ Q (.int (if k then 1 else 0)) H
def rAbs : RL := fun xs H Q => ∃ i, xs = [.int i] ∧ Q (.int (if i < 0 then -i else i)) H
def rMax2 : RL := fun xs H Q => ∃ i j, xs = [.int i, .int j] ∧ Q (.int (if j > i then j else i)) H
def rMin2 : RL := fun xs H Q => ∃ i j, xs = [.int i, .int j] ∧ Q (.int (if j < i then j else i)) H
def rListOf (K : PySem.W.Frag) : RL := fun xs H Q => ∃ p ys, xs = [.ref p] ∧ (SqL K H p ys ∨ SqT K H p ys) ∧ ∀ l, H l = none → Q (.ref l) (upd H l (.lst ys))
abbrev RM := V → List V → Hp → VK → Prop
def rJoin (K : PySem.W.Frag) : RM := fun x xs H Q => ∃ a p, ∃ ys : List Str, x = .str a ∧ xs = [.ref p] ∧ (SqL K H p (ys.map V.str) ∨ SqT K H p (ys.map V.str)) ∧ (ys.map (·.length)).sum + ys.length * a.length ≤ 16777216 ∧ Q (.str (Txt.join a ys)) H
def rSIx : RM := fun x xs H Q => ∃ a b i rest, x = .str a ∧ xs = [.str b] ∧ Builtin.Str.occurrences a b 0 a.length 1 = i :: rest ∧ Q (.int (i : Nat)) H
section
variable {X : Cx}
theorem o_isT : OpR X (compareOp .Is) rIsT := op_isTyB
theorem o_noT : OpR X (compareOp .IsNot) rNoT := op_notTyB
theorem o_isN : OpR X (compareOp .Is) rIN := op_isN
theorem o_notN : OpR X (compareOp .IsNot) rNN := op_notN
theorem o_inC : OpR X (compareOp .In) rInC := op_in_sign
theorem o_ninC : OpR X (compareOp .NotIn) rNinC := op_notIn_sign
theorem o_addS : OpR X (binaryOp .Add) rAddS := op_add_str
theorem o_ltS : OpR X (compareOp .Lt) rLtS := op_lt_str
theorem k_lnS : CallR X (.builtin "len") rLnS := call_len_str
theorem k_lnQ : CallR X (.builtin "len") (rLnQ X.K) := call_len_seq
theorem k_int : CallR X (.type "int") rInt := call_int1
theorem k_abs : CallR X (.builtin "abs") rAbs := call_abs
theorem k_max2 (hc : X.calm = true) : CallR X (.builtin "max") rMax2 := call_max2 hc
theorem k_min2 (hc : X.calm = true) : CallR X (.builtin "min") rMin2 := call_min2 hc
theorem k_listOf : CallR X (.type "list") (rListOf X.K) := call_list_of
theorem pe_jn {o e : Expr} {to te : TE} {apos pos : Pos} (ho : PE X o to) (he : PE X e te) (hs : starEach [e] X.env = [(false, eval e X.env)] := by rfl) (hbase : attributeBase o "join" X.env (eval o X.env) = eval o X.env := by rfl) (hline : (apos.endLine == pos.line) = true := by rfl) :
    PE X (.Call (.Attribute o "join" apos) [e] [] pos) (tM1 (rJoin X.K) to te) := pe_join ho he hs hbase hline
theorem pe_sx {o e : Expr} {to te : TE} {apos pos : Pos} (ho : PE X o to) (he : PE X e te) (hs : starEach [e] X.env = [(false, eval e X.env)] := by rfl) (hbase : attributeBase o "index" X.env (eval o X.env) = eval o X.env := by rfl) (hline : (apos.endLine == pos.line) = true := by rfl) :
    PE X (.Call (.Attribute o "index" apos) [e] [] pos) (tM1 rSIx to te) := pe_sindex ho he hs hbase hline
end
/-! ### readings -/
section
variable {σ : L2.St} {H : Hp} {Q : VK} {QT : Bool → Hp → Prop} {QA : List V → Hp → Prop} {D : Ends} {ta tb tc te : TE} {t u : TS} {tt tu : TT} {tA tr : TA} {g : TG} {r r' : R2} {v x y : V} {i j : Nat} {K : PySem.W.Frag}
theorem r_seq (h : t { D with nx := u D } σ H) : tSeq t u D σ H := h
theorem r_asg (h : te σ H fun x H1 => g x σ H1 D.nx) : tAsg te g D σ H := h
theorem r_name {Q : L2.St → Hp → Prop} (h : Q (σ.set i (some v)) H) : gName i v σ H Q := h
theorem r_ret (h : te σ H D.rt) : tRet te D σ H := h
theorem r_drop (h : te σ H fun _ H1 => D.nx σ H1) : tDrop te D σ H := h
theorem r_next (h : D.nx σ H) : tNext D σ H := h
theorem r_ifS (h : tt σ H fun b H1 => if b = true then t D σ H1 else u D σ H1) : tIfS tt t u D σ H := h
theorem r_op (h : ta σ H fun x H1 => tb σ H1 fun y H2 => r x y H2 Q) : tOp r ta tb σ H Q := h
theorem r_un {r : V → Hp → VK → Prop} (h : ta σ H fun x H1 => r x H1 Q) : tUn r ta σ H Q := h
theorem r_var (h : σ[i]? = some (some v)) (q : Q v H) : tVar i σ H Q := ⟨v, h, q⟩
theorem r_c (q : Q v H) : tC v σ H Q := q
theorem r_I0 {f : Int → Int → V} {a b : Int} (q : Q (f a b) H) : rI0 f (.int a) (.int b) H Q := ⟨a, b, rfl, rfl, q⟩
theorem r_I {C : Int → Int → Prop} {f : Int → Int → V} {a b : Int} (c : C a b) (q : Q (f a b) H) : rI C f (.int a) (.int b) H Q := ⟨a, b, rfl, rfl, c, q⟩
theorem r_U {f : Int → V} {a : Int} (q : Q (f a) H) : rU f (.int a) H Q := ⟨a, rfl, q⟩
theorem r_eq (s : scal x y = true) (q : Q (.bl (decide (x = y))) H) : rEq x y H Q := ⟨s, q⟩
theorem r_ne (s : scal x y = true) (q : Q (.bl (!decide (x = y))) H) : rNe x y H Q := ⟨s, q⟩
theorem r_cb {r : List V → Hp → VK → Prop} (h : tA σ H fun vs H1 => r vs H1 Q) : tCB r tA σ H Q := h
theorem r_cons (h : ta σ H fun x H1 => tr σ H1 fun xs H2 => QA (x :: xs) H2) : tCons ta tr σ H QA := h
theorem r_nil (h : QA [] H) : tNil σ H QA := h
theorem r_call {sp : Sp} {E : XK} (h : tA σ H fun vs H1 => sp (vs ++ []) H1 Q E) : tCall sp [] E tA σ H Q := h
theorem r_callN {n m : Nat} {sp : Sp} {E : XK} {gV : List V → List V → List V} {tk : TA} (h : tA σ H fun vs H1 => tk σ H1 fun zs H2 => vs.length = n ∧ zs.length = m ∧ sp (gV vs zs) H2 Q E) : tCallN n m sp gV E tA tk σ H Q := h
theorem r_test (h : ta σ H fun x H' => ∃ k, x = .bl k ∧ QT k H') : tTest ta σ H QT := h
theorem r_B (h : ta σ H fun x H' => ∃ k, x = .bl k ∧ QT k H') : tB ta σ H QT := h
theorem r_k {P : Bool → Prop} {b : Bool} (h : P b) : ∃ k, V.bl b = .bl k ∧ P k := ⟨b, rfl, h⟩
theorem r_and (h : tt σ H fun c H1 => if c = true then tu σ H1 QT else QT false H1) : tAnd tt tu σ H QT := h
theorem r_or (h : tt σ H fun c H1 => if c = true then QT true H1 else tu σ H1 QT) : tOr tt tu σ H QT := h
theorem r_not (h : tt σ H fun c H1 => QT (!c) H1) : tNot tt σ H QT := h
theorem r_andV (h : ta σ H fun x H1 => ∃ c, x = .bl c ∧ if c = true then tb σ H1 Q else Q (.bl false) H1) : tAndV ta tb σ H Q := h
theorem r_orV (h : ta σ H fun x H1 => ∃ c, x = .bl c ∧ if c = true then Q (.bl true) H1 else tb σ H1 Q) : tOrV ta tb σ H Q := h
theorem r_notV (h : ta σ H fun x H1 => ∃ c, x = .bl c ∧ Q (.bl (!c)) H1) : tNotV ta σ H Q := h
theorem r_if (h : tt σ H fun c H1 => if c = true then ta σ H1 Q else tb σ H1 Q) : tIf tt ta tb σ H Q := h
theorem r_chain (h : ta σ H fun x H1 => tb σ H1 fun y H2 => r x y H2 fun z H3 => ∃ k, z = .bl k ∧ (if k = true then tc σ H3 fun w' H4 => r' y w' H4 Q else Q (.bl false) H3)) : tChain r r' ta tb tc σ H Q := h
theorem r_tup (h : tA σ H fun xs H1 => xs.length ≤ sizeLine ∧ ∀ p, H1 p = none → Q (.ref p) (upd H1 p (.tup xs))) : tTup tA σ H Q := h
theorem r_lst (h : tA σ H fun xs H1 => xs.length ≤ sizeLine ∧ ∀ p, H1 p = none → Q (.ref p) (upd H1 p (.lst xs))) : tLst tA σ H Q := h
theorem r_par (h : tA σ H fun vs H1 => ∃ v w, vs = [v, w] ∧ D.nx ((σ.set i (some v)).set j (some w)) H1) : tPar i j tA D σ H := h
theorem r_sl {rs : V → Option Int → Option Int → Hp → VK → Prop} {tl th : TO} (h : te σ H fun x H1 => tl σ H1 fun l H2 => th σ H2 fun u H3 => rs x l u H3 Q) : tSl rs te tl th σ H Q := h
theorem r_nopart {Q : Option Int → Hp → Prop} (h : Q none H) : tNoPart σ H Q := h
theorem r_part {Q : Option Int → Hp → Prop} (h : te σ H fun x H1 => ∃ i, x = .int i ∧ Q (some i) H1) : tPart te σ H Q := h
theorem r_i {P : Int → Prop} {a : Int} (h : P a) : ∃ i, V.int a = .int i ∧ P i := ⟨a, rfl, h⟩
theorem r_int {a : Int} (h : Q (.int a) H) : rInt [.int a] H Q := .inl ⟨a, rfl, h⟩
theorem r_intb {b : Bool} (h : Q (.int (if b then 1 else 0)) H) : rInt [.bl b] H Q := .inr ⟨b, rfl, h⟩
theorem r_abs {a : Int} (h : Q (.int (if a < 0 then -a else a)) H) : rAbs [.int a] H Q := ⟨a, rfl, h⟩
theorem r_max2 {a b : Int} (h : Q (.int (if b > a then b else a)) H) : rMax2 [.int a, .int b] H Q := ⟨a, b, rfl, h⟩
theorem r_min2 {a b : Int} (h : Q (.int (if b < a then b else a)) H) : rMin2 [.int a, .int b] H Q := ⟨a, b, rfl, h⟩
theorem r_lnS {z : Str} (hz : z.length ≤ sizeLine) (h : Q (.int z.length) H) : rLnS [.str z] H Q := ⟨z, rfl, hz, h⟩
theorem r_lnT {l : List Nat} (hz : l.length ≤ 1000000) (h : Q (.int l.length) H) : rLnS [.str (S l)] H Q := ⟨_, rfl, by rw [S_len]; exact Nat.le_trans hz (by decide), by rw [S_len]; exact h⟩
theorem r_lnL {p : Addr} {ys : List V} (hs : SqL K H p ys) (h : Q (.int ys.length) H) : rLnQ K [.ref p] H Q := ⟨p, ys, rfl, .inl hs, h⟩
theorem r_lnU {p : Addr} {ys : List V} (hs : SqT K H p ys) (h : Q (.int ys.length) H) : rLnQ K [.ref p] H Q := ⟨p, ys, rfl, .inr hs, h⟩
theorem r_listL {p : Addr} {ys : List V} (hs : SqL K H p ys) (h : ∀ l, H l = none → Q (.ref l) (upd H l (.lst ys))) : rListOf K [.ref p] H Q := ⟨p, ys, rfl, .inl hs, h⟩
theorem r_listS {l : List Nat} (hz : l.length ≤ 1000000) (h : ∀ p, H p = none → Q (.ref p) (upd H p (.lst (l.map fun c => V.str (S [c]))))) : rListStr [.str (S l)] H Q := ⟨_, rfl, by rw [S_len]; exact Nat.le_trans hz (by decide), by rw [signs_S]; exact h⟩
theorem r_isT {a b : String} (q : Q (.bl (decide (a = b))) H) : rIsT (.ty a) (.ty b) H Q := ⟨a, b, rfl, rfl, q⟩
theorem r_noT {a b : String} (q : Q (.bl (!decide (a = b))) H) : rNoT (.ty a) (.ty b) H Q := ⟨a, b, rfl, rfl, q⟩
theorem r_isN (q : Q (.bl (decide (x = .non))) H) : rIN x .non H Q := ⟨rfl, q⟩
theorem r_notN (q : Q (.bl (!decide (x = .non))) H) : rNN x .non H Q := ⟨rfl, q⟩
theorem r_inC {c : Nat} {l : List Nat} (q : Q (.bl (decide (c ∈ l))) H) : rInC (.str (S [c])) (.str (S l)) H Q := ⟨c, _, rfl, rfl, by rw [S_codes]; exact q⟩
theorem r_addS {a b : List Nat} (hz : a.length + b.length ≤ 1000000) (q : Q (.str (S (a ++ b))) H) : rAddS (.str (S a)) (.str (S b)) H Q := ⟨_, _, rfl, rfl, by rw [S_len, S_len]; exact Nat.le_trans hz (by decide), by rw [S_app]; exact q⟩
theorem r_mulS {a : List Nat} {n : Nat} (hz : a.length * n ≤ 1000000) (hn : n ≤ 1000000) (q : Q (.str (S (List.replicate n a).flatten)) H) : rMulS (.str (S a)) (.int (n : Int)) H Q := ⟨_, _, rfl, rfl, mulok_S hz hn, by rw [mul_S]; exact q⟩
theorem r_join {p : Addr} {ys : List (List Nat)} (hs : SqL K H p (ys.map fun l => V.str (S l))) (hz : ys.flatten.length ≤ 1000000) (q : Q (.str (S ys.flatten)) H) : rJoin K (.str (S [])) [.ref p] H Q :=
  ⟨_, p, ys.map S, rfl, rfl, .inl (by rw [List.map_map]; exact hs), by
    rw [List.map_map, S_len]
    have e : ((fun z : Str => z.length) ∘ S) = fun l : List Nat => l.length := funext fun l => S_len l
    rw [show ((·.length) ∘ S : List Nat → Nat) = fun l : List Nat => l.length from e]
    rw [List.length_flatten] at hz
    simp only [List.length_nil, Nat.mul_zero, Nat.add_zero]
    exact Nat.le_trans hz (by decide), by rw [join_S]; exact q⟩
theorem r_isi {T t : String} {b : Bool} (hx : TyX K H x (.type t)) (hk : kitB t T = some b) (q : Q (.bl b) H) : rIsi K [x, .ty T] H Q := ⟨x, .ty T, .type t, .type T, b, rfl, .ty T, hx, kit_ty hk, q⟩
def isiS (x : V) (T : String) : Option Bool := match x with
  | .int _ => kitB "int" T
  | .str _ => kitB "str" T
  | .bl _ => kitB "bool" T
  | .non => kitB "NoneType" T
  | _ => none
theorem r_isiS {T : String} {b : Bool} (h : isiS x T = some b) (q : Q (.bl b) H) : rIsi K [x, .ty T] H Q := by
  cases x with
  | int i => exact r_isi (.base (.int i)) h q
  | str i => exact r_isi (.base (.str i)) h q
  | bl i => exact r_isi (.base (.bl i)) h q
  | non => exact r_isi (.base .non) h q
  | _ => cases h
theorem r_isiT {T : String} {a : Addr} {xs : List V} {b : Bool} (h : SqT K H a xs) (hk : kitB "tuple" T = some b) (q : Q (.bl b) H) : rIsi K [.ref a, .ty T] H Q := by
  rcases h with h | ⟨o, its, n, h1, h2, _⟩
  · rcases h with h | ⟨o, h⟩
    · exact r_isi (.base (.tup h)) hk q
    · exact r_isi (.fTuple h) hk q
  · exact r_isi (.kTuple h1 h2) hk q
theorem r_typ {T : String} (h : TyB K H x T) (q : Q (.ty T) H) : rTyp K [x] H Q := ⟨x, T, rfl, h, q⟩
theorem r_for {wi : TI} {tb : TS} (h : wi σ H fun J H1 => ∃ W : Nat → Nat → L2.St → Hp → Prop, (∃ m, W 0 m σ H1) ∧ ∀ i m σ H, W i m σ H →
  (J.stop i H ∧ D.nx σ H) ∨ (J.go i H ∧ ∃ N : L2.St → Hp → Prop, (∀ σ' H', N σ' H' → ∃ m', m' < m ∧ W (i + 1) m' σ' H') ∧ ∀ x H', J.yld i H x H' → g x σ H' fun σ2 H2 => tb { D with nx := N, ct := N, bk := D.nx } σ2 H2)) : tFor wi g tb D σ H := h
theorem r_iStr {R : It → Hp → Prop} (h : te σ H fun v H1 => ∃ x, v = .str x ∧ R (Its x) H1) : iStr te σ H R := h
theorem r_iList {R : It → Hp → Prop} (h : te σ H fun x H1 => ∃ a, x = .ref a ∧ (∃ xs, SqL K H1 a xs) ∧ R (Itl K a) H1) : iList K te σ H R := h
theorem r_iTup {R : It → Hp → Prop} (h : te σ H fun x H1 => ∃ a, x = .ref a ∧ (∃ xs, SqT K H1 a xs) ∧ R (Itt K a) H1) : iTup K te σ H R := h
theorem r_tM1 {r : V → List V → Hp → VK → Prop} (h : ta σ H fun x H1 => (∃ a, x = .str a) ∧ te σ H1 fun y H2 => r x [y] H2 Q) : tM1 r ta te σ H Q := h
theorem r_lc {wi : TI} {vs : List Nat} (h : wi σ H fun J H1 => ∀ D, H1 D = none → ∃ W : Nat → Nat → Hp → Prop, (∃ m, W 0 m (upd H1 D (.lst []))) ∧ ∀ i m H, W i m H →
  (J.stop i H ∧ Q (.ref D) H) ∨ (J.go i H ∧ ∃ Nx : Hp → Prop, (∀ H', Nx H' → ∃ m', m' < m ∧ W (i + 1) m' H') ∧ ∀ x H', J.yld i H x H' → g x (wipe σ vs) H' fun σ2 H2 => wipe σ2 vs = wipe σ vs ∧ tt σ2 H2 fun b H3 =>
    if b = true then te σ2 H3 fun y H4 => ∃ acc, H4 D = some (.lst acc) ∧ acc.length < sizeLine ∧ Nx (upd H4 D (.lst (acc ++ [y]))) else Nx H3)) : tLc wi g tt te vs σ H Q := h
theorem r_yes (h : QT true H) : tYes σ H QT := h
theorem r_ixL {p : Addr} {xs : List V} {a : Int} (hS : SqL K H p xs) (ha : atI xs a = some v) (q : Q v H) : rIxL K (.ref p) (.int a) H Q := ⟨p, xs, a, v, rfl, rfl, hS, ha, q⟩
theorem r_ixT {p : Addr} {xs : List V} {a : Int} (hS : SqT K H p xs) (ha : atI xs a = some v) (q : Q v H) : rIxT K (.ref p) (.int a) H Q := ⟨p, xs, a, v, rfl, rfl, hS, ha, q⟩
theorem r_true {A B : Prop} (h : A) : if true = true then A else B := by rw [if_pos rfl]; exact h
theorem r_false {A B : Prop} (h : B) : if false = true then A else B := by rw [if_neg Bool.false_ne_true]; exact h
theorem r_dec {c A B : Prop} [Decidable c] (h1 : c → A) (h2 : ¬ c → B) : if decide c = true then A else B := by
  by_cases h : c
  · rw [decide_eq_true h]; exact r_true (h1 h)
  · rw [decide_eq_false h]; exact r_false (h2 h)
theorem r_ndec {c A B : Prop} [Decidable c] (h1 : ¬ c → A) (h2 : c → B) : if (!decide c) = true then A else B := by
  by_cases h : c
  · rw [decide_eq_true h]; exact r_false (h2 h)
  · rw [decide_eq_false h]; exact r_true (h1 h)
theorem r_ndecI {a b : V} {A B : Prop} (h1 : ¬ a = b → A) (h2 : a = b → B) : if (!decide (a = b)) = true then A else B := r_ndec h1 h2
end
/-! ### heaps: all but one object -/
def But (a : Addr) (H H' : Hp) : Prop := ∀ b o, b ≠ a → H b = some o → H' b = some o
section
variable {a p : Addr} {H H' H1 H2 : Hp} {o : HO}
theorem But.refl : But a H H := fun _ _ _ h => h
theorem But.trans (e : But a H H1) (f : But a H1 H2) : But a H H2 := fun b o n h => f b o n (e b o n h)
theorem But.of (e : Same H H') : But a H H' := fun b o _ h => e b o h
theorem But.new (e : But a H H1) (h : H1 p = none) : But a H (upd H1 p o) := fun b u n q => by
  have q' := e b u n q
  rw [upd_ne (ne_of_none q' h)]
  exact q'
theorem But.put (e : But a H H1) : But a H (upd H1 a o) := fun b u n q => by
  rw [upd_ne n]
  exact e b u n q
theorem But.mut (e : But a H H1) (h : H p = none) : But a H (upd H1 p o) := fun b u n q => by
  rw [upd_ne (ne_of_none q h)]
  exact e b u n q
theorem same_new (h : H p = none) : Same H (upd H p o) := fun b u q => by
  rw [upd_ne (ne_of_none q h)]
  exact q
theorem Same.mut (e : Same H H1) (h : H p = none) : Same H (upd H1 p o) := fun b u q => by
  rw [upd_ne (ne_of_none q h)]
  exact e b u q
theorem But.free (e : But a H H1) {l : Addr} (n : l ≠ a) (h : H1 l = none) : H l = none := by
  cases q : H l with
  | none => rfl
  | some o => rw [e l o n q] at h; cases h
theorem But.rd (e : But a H H1) {b : Addr} {u : HO} (n : b ≠ a) (h : Rd H b u) : Rd H1 b u := by
  rcases h with h | ⟨o, h⟩
  · exact .inl (e _ _ n h)
  · exact .inr ⟨o, e _ _ n h⟩
theorem But.sql {K : PySem.W.Frag} (e : But a H H1) {b : Addr} {xs : List V} (n : b ≠ a) (h : SqL K H b xs) : SqL K H1 b xs := by
  rcases h with h | h
  · exact .inl (e.rd n h)
  · exact .inr h
theorem But.sqt {K : PySem.W.Frag} (e : But a H H1) {b : Addr} {xs : List V} (n : b ≠ a) (h : SqT K H b xs) : SqT K H1 b xs := by
  rcases h with h | h
  · exact .inl (e.rd n h)
  · exact .inr h
theorem Same.sqt {K : PySem.W.Frag} (e : Same H H1) {b : Addr} {xs : List V} (h : SqT K H b xs) : SqT K H1 b xs := by
  rcases h with (h | ⟨o, h⟩) | h
  · exact .inl (.inl (e _ _ h))
  · exact .inl (.inr ⟨o, e _ _ h⟩)
  · exact .inr h
theorem fresh_ne (h : H p = none) (e : H a = some o) : p ≠ a := (ne_of_none e h).symm
end
/-! ### the pot: draws -/
def PotAt (H : Hp) (a : Addr) (c : Int) : Prop := ∃ own sd n : Int, H a = some (.lst [.int own, .int sd, .int n]) ∧ 0 ≤ own ∧ own.natAbs < 2 ^ 1000 ∧ 0 ≤ sd ∧ sd < 2305843009213693951 ∧ 0 ≤ n ∧ n ≤ c
theorem PotAt.mono {H : Hp} {a : Addr} {c d : Int} (h : PotAt H a c) (l : c ≤ d) : PotAt H a d := by
  obtain ⟨own, sd, n, h1, h2, h3, h4, h5, h6, h7⟩ := h
  exact ⟨own, sd, n, h1, h2, h3, h4, h5, h6, by omega⟩
theorem PotAt.new {H : Hp} {a p : Addr} {c : Int} {o : HO} (h : PotAt H a c) (n : H p = none) : PotAt (upd H p o) a c := by
  obtain ⟨own, sd, k, h1, h2⟩ := h
  exact ⟨own, sd, k, by rw [upd_ne (ne_of_none h1 n)]; exact h1, h2⟩
theorem PotAt.ne {H : Hp} {a p : Addr} {c : Int} (h : PotAt H a c) (n : p ≠ a) {o : HO} : PotAt (upd H p o) a c := by
  obtain ⟨own, sd, k, h1, h2⟩ := h
  exact ⟨own, sd, k, by rw [upd_ne n.symm]; exact h1, h2⟩
theorem PotAt.fresh {H : Hp} {a p : Addr} {c : Int} (h : PotAt H a c) (n : H p = none) : p ≠ a := by
  obtain ⟨own, sd, k, h1, h2⟩ := h
  exact fresh_ne n h1
theorem PotAt.same {H H' : Hp} {a : Addr} {c : Int} (h : PotAt H a c) (e : Same H H') : PotAt H' a c := by
  obtain ⟨own, sd, k, h1, h2⟩ := h
  exact ⟨own, sd, k, e _ _ h1, h2⟩

/-! ### the fates: n 110, f 102, s 115 -/
def Wd (l : List Nat) : Prop := ∀ c ∈ l, c = 110 ∨ c = 102 ∨ c = 115
theorem Wd.nil : Wd [] := fun _ h => nomatch h
theorem Wd.app {a b : List Nat} (h : Wd a) (h' : Wd b) : Wd (a ++ b) := fun c hc => (List.mem_append.mp hc).elim (h c) (h' c)
theorem Wd.take {a : List Nat} (h : Wd a) (n : Nat) : Wd (a.take n) := fun c hc => h c (List.mem_of_mem_take hc)
theorem Wd.drop {a : List Nat} (h : Wd a) (n : Nat) : Wd (a.drop n) := fun c hc => h c (List.mem_of_mem_drop hc)
theorem Wd.get {a : List Nat} (h : Wd a) {i c : Nat} (e : a[i]? = some c) : c = 110 ∨ c = 102 ∨ c = 115 := h c (List.mem_of_getElem? e)
theorem Wd.rep {a : List Nat} (h : Wd a) (n : Nat) : Wd (List.replicate n a).flatten := fun c hc => by
  obtain ⟨x, h1, h2⟩ := List.mem_flatten.mp hc
  rw [List.eq_of_mem_replicate h1] at h2
  exact h c h2
/-! ### loops over texts -/
theorem for_S {l : List Nat} {g : TG} {tb : TS} {D : Ends} {σ : L2.St} {H : Hp} (Pv : Nat → L2.St → Hp → Prop) (h0 : Pv 0 σ H)
    (hs : ∀ i c σ H, l[i]? = some c → Pv i σ H → g (.str (S [c])) σ H fun σ2 H2 => tb { D with nx := Pv (i + 1), ct := Pv (i + 1), bk := D.nx } σ2 H2) (hd : ∀ σ H, Pv l.length σ H → D.nx σ H) :
    ∃ W : Nat → Nat → L2.St → Hp → Prop, (∃ m, W 0 m σ H) ∧ ∀ i m σ H, W i m σ H →
      ((Its (S l)).stop i H ∧ D.nx σ H) ∨ ((Its (S l)).go i H ∧ ∃ N : L2.St → Hp → Prop, (∀ σ' H', N σ' H' → ∃ m', m' < m ∧ W (i + 1) m' σ' H') ∧ ∀ x H', (Its (S l)).yld i H x H' → g x σ H' fun σ2 H2 => tb { D with nx := N, ct := N, bk := D.nx } σ2 H2) := by
  have sz : (S l).cps.size = l.length := by unfold S; simp
  refine ⟨fun i m σ H => m = l.length - i ∧ i ≤ l.length ∧ Pv i σ H, ⟨l.length, by simp, Nat.zero_le _, h0⟩, ?_⟩
  rintro i m σ H ⟨rfl, hi, p⟩
  by_cases hlt : i < l.length
  · refine .inr ⟨(by show i < (S l).cps.size; rw [sz]; exact hlt), Pv (i + 1), fun σ' H' p' => ⟨l.length - (i + 1), by omega, rfl, hlt, p'⟩, fun x H' y => ?_⟩
    obtain ⟨rfl, c, e, rfl⟩ := y
    exact hs i c σ H' (by simpa [S] using e) p
  · refine .inl ⟨(by show (S l).cps.size ≤ i; rw [sz]; omega), ?_⟩
    have : i = l.length := by omega
    subst this
    exact hd σ H p
theorem lc_S {l : List Nat} {g : TG} {tt : TT} {te : TE} {vs : List Nat} {σ : L2.St} {H1 : Hp} {D : Addr} {Qd : Hp → Prop} (Pv : Nat → Hp → Prop) (h0 : Pv 0 (upd H1 D (.lst [])))
    (hs : ∀ i c H, l[i]? = some c → Pv i H → g (.str (S [c])) (wipe σ vs) H fun σ2 H2 => wipe σ2 vs = wipe σ vs ∧ tt σ2 H2 fun b H3 =>
      if b = true then te σ2 H3 fun y H4 => ∃ acc, H4 D = some (.lst acc) ∧ acc.length < sizeLine ∧ Pv (i + 1) (upd H4 D (.lst (acc ++ [y]))) else Pv (i + 1) H3) (hd : ∀ H, Pv l.length H → Qd H) :
    ∃ W : Nat → Nat → Hp → Prop, (∃ m, W 0 m (upd H1 D (.lst []))) ∧ ∀ i m H, W i m H →
      ((Its (S l)).stop i H ∧ Qd H) ∨ ((Its (S l)).go i H ∧ ∃ Nx : Hp → Prop, (∀ H', Nx H' → ∃ m', m' < m ∧ W (i + 1) m' H') ∧ ∀ x H', (Its (S l)).yld i H x H' → g x (wipe σ vs) H' fun σ2 H2 => wipe σ2 vs = wipe σ vs ∧ tt σ2 H2 fun b H3 =>
        if b = true then te σ2 H3 fun y H4 => ∃ acc, H4 D = some (.lst acc) ∧ acc.length < sizeLine ∧ Nx (upd H4 D (.lst (acc ++ [y]))) else Nx H3) := by
  have sz : (S l).cps.size = l.length := by unfold S; simp
  refine ⟨fun i m H => m = l.length - i ∧ i ≤ l.length ∧ Pv i H, ⟨l.length, by simp, Nat.zero_le _, h0⟩, ?_⟩
  rintro i m H ⟨rfl, hi, p⟩
  by_cases hlt : i < l.length
  · refine .inr ⟨(by show i < (S l).cps.size; rw [sz]; exact hlt), Pv (i + 1), fun H' p' => ⟨l.length - (i + 1), by omega, rfl, hlt, p'⟩, fun x H' y => ?_⟩
    obtain ⟨rfl, c, e, rfl⟩ := y
    exact hs i c H' (by simpa [S] using e) p
  · refine .inl ⟨(by show (S l).cps.size ≤ i; rw [sz]; omega), ?_⟩
    have : i = l.length := by omega
    subst this
    exact hd H p
section
theorem r_yesD {c A B : Prop} [Decidable c] (h : c) (q : A) : if decide c = true then A else B := by rw [decide_eq_true h]; exact r_true q
theorem r_noD {c A B : Prop} [Decidable c] (h : ¬ c) (q : B) : if decide c = true then A else B := by rw [decide_eq_false h]; exact r_false q
theorem r_nt {A B : Prop} (h : B) : if (!true) = true then A else B := r_false h
theorem r_nf {A B : Prop} (h : A) : if (!false) = true then A else B := r_true h
theorem r_nyesD {c A B : Prop} [Decidable c] (h : c) (q : B) : if (!decide c) = true then A else B := by rw [decide_eq_true h]; exact r_false q
theorem r_nnoD {c A B : Prop} [Decidable c] (h : ¬ c) (q : A) : if (!decide c) = true then A else B := by rw [decide_eq_false h]; exact r_true q
theorem r_allT {K : PySem.W.Frag} {H : Hp} {Q : VK} {D : Addr} {n : Nat} (h : H D = some (.lst (List.replicate n (.bl true)))) (q : Q (.bl true) H) : rAll K [.ref D] H Q := by
  refine ⟨D, List.replicate n true, rfl, SqL.of ?_, ?_⟩
  · rw [h, List.map_replicate]
  · have e : (List.replicate n true).all id = true := by simp
    rw [e]
    exact q
theorem rep_len (n : Nat) : (List.replicate n (V.bl true)).length = n := List.length_replicate
theorem rep_succ (n : Nat) : List.replicate n (V.bl true) ++ [V.bl true] = List.replicate (n + 1) (V.bl true) := by
  rw [List.replicate_succ']
theorem le_line {n : Nat} (h : n ≤ 1000000) : n ≤ sizeLine := Nat.le_trans h (by decide)
theorem lt_line {n : Nat} (h : n ≤ 1000000) : n < sizeLine := Nat.lt_of_le_of_lt h (by decide)
/-- a comprehension over a text, every item True -/
theorem lcS_true {l : List Nat} {g : TG} {te : TE} {vs : List Nat} {σ : L2.St} {H1 : Hp} {D : Addr} {Qd : Hp → Prop} (hD : H1 D = none) (hl : l.length ≤ 1000000)
    (hs : ∀ (i c : Nat) (H : Hp), l[i]? = some c → Same H1 H → ∀ R : V → Hp → Prop, (∀ H', Same H H' → R (.bl true) H') → g (.str (S [c])) (wipe σ vs) H fun σ2 H2 => wipe σ2 vs = wipe σ vs ∧ te σ2 H2 R)
    (hd : ∀ H, Same H1 H → H D = some (.lst (List.replicate l.length (.bl true))) → Qd H) :
    ∃ W : Nat → Nat → Hp → Prop, (∃ m, W 0 m (upd H1 D (.lst []))) ∧ ∀ i m H, W i m H →
      ((Its (S l)).stop i H ∧ Qd H) ∨ ((Its (S l)).go i H ∧ ∃ Nx : Hp → Prop, (∀ H', Nx H' → ∃ m', m' < m ∧ W (i + 1) m' H') ∧ ∀ x H', (Its (S l)).yld i H x H' → g x (wipe σ vs) H' fun σ2 H2 => wipe σ2 vs = wipe σ vs ∧ tYes σ2 H2 fun b H3 =>
        if b = true then te σ2 H3 fun y H4 => ∃ acc, H4 D = some (.lst acc) ∧ acc.length < sizeLine ∧ Nx (upd H4 D (.lst (acc ++ [y]))) else Nx H3) := by
  refine lc_S (fun i H => Same H1 H ∧ H D = some (.lst (List.replicate i (.bl true)))) ⟨same_new hD, upd_same⟩ (fun i c H e p => ?_) fun H p => hd H p.1 p.2
  have hi : i < l.length := (List.getElem?_eq_some_iff.mp e).1
  exact hs i c H e p.1 _ fun H' e' => ⟨_, e' _ _ p.2, by rw [rep_len]; exact lt_line (by omega), Same.mut (p.1.trans e') hD, by rw [upd_same, rep_succ]⟩
end

/-! ### cuts, stores -/
section
variable {σ : L2.St} {H : Hp} {Q : VK} {D : Ends} {te : TE} {ts : TS} {K : PySem.W.Frag}
theorem r_cut (P : V → Hp → Prop) (fin : ∀ x H1, P x H1 → Q x H1) (main : ∀ R : VK, (∀ x H1, P x H1 → R x H1) → te σ H R) : te σ H Q := main Q fin
theorem s_cut (P : L2.St → Hp → Prop) (fin : ∀ σ' H', P σ' H' → D.nx σ' H') (main : ∀ N : L2.St → Hp → Prop, (∀ σ' H', P σ' H' → N σ' H') → ts { D with nx := N } σ H) : ts D σ H := main D.nx fin
theorem t_cut {tt : TT} {QT : Bool → Hp → Prop} (P : Bool → Hp → Prop) (fin : ∀ x H1, P x H1 → QT x H1) (main : ∀ R : Bool → Hp → Prop, (∀ x H1, P x H1 → R x H1) → tt σ H R) : tt σ H QT := main QT fin
theorem r_gSub {to ti : TE} {t : TSet} {v : V} {Q : L2.St → Hp → Prop} (h : to σ H fun o H1 => ti σ H1 fun i H2 => t o i v H2 fun H3 => Q σ H3) : gSub to ti t v σ H Q := h
theorem r_setL {p : Addr} {xs : List V} {k : Int} {j : Nat} {v : V} {Q : Hp → Prop} (h : H p = some (.lst xs)) (hk : ixN xs.length k = some j) (q : Q (upd H p (.lst (xs.set j v)))) : rSetL (.ref p) (.int k) v H Q := ⟨p, xs, k, j, rfl, rfl, h, hk, q⟩
theorem r_lstRg {tr : L2.St → Hp → (Int → Int → Hp → Prop) → Prop} (h : tr σ H fun a b H1 => RgOk a b ∧ ∀ q, H1 q = none → Q (.ref q) (upd H1 q (.lst (rgV a b)))) : tLstRg tr σ H Q := h
theorem r_rg1 {ta : TE} {Q : Int → Int → Hp → Prop} (h : ta σ H fun x H1 => ∃ n, x = .int n ∧ Q 0 n H1) : tRg1 ta σ H Q := h
theorem r_gTup {n : Nat} {t : TGs} {a : Addr} {xs : List V} {Q : L2.St → Hp → Prop} (hs : SqT K H a xs) (hl : xs.length = n) (h : t xs σ H Q) : gTup K n t (.ref a) σ H Q := ⟨a, xs, rfl, hs, hl, h⟩
theorem r_gCons {t : TG} {u : TGs} {v : V} {r : List V} {Q : L2.St → Hp → Prop} (h : t v σ H fun σ' H' => u r σ' H' Q) : gCons t u (v :: r) σ H Q := ⟨v, r, rfl, h⟩
theorem r_gNil {Q : L2.St → Hp → Prop} (h : Q σ H) : gNil [] σ H Q := ⟨rfl, h⟩
theorem r_slL {a : Addr} {xs : List V} {lo hi : Option Int} (hs : SqL K H a xs) (h : ∀ p, H p = none → Q (.ref p) (upd H p (.lst (cutV xs lo hi)))) : rSlL K (.ref a) lo hi H Q := ⟨a, xs, rfl, hs, h⟩
theorem r_slS {l : List Nat} {lo hi : Option Int} (hz : l.length ≤ 1000000) (h : Q (.str (cutS (S l) lo hi)) H) : rSlS (.str (S l)) lo hi H Q := ⟨_, rfl, by rw [S_len]; exact le_line hz, h⟩
theorem r_sum {a : Addr} {ns : List Int} (hs : SqL K H a (ns.map V.int)) (q : Q (.int ns.sum) H) : rSum K [.ref a] H Q := ⟨a, ns, rfl, hs, q⟩
end
/-! ### sizes -/
theorem log2_le {n k : Nat} (h : n < 2 ^ k) (hk : 0 < k) : n.log2 < k := PySem.Flt.log2_lt_of hk h
theorem cmw {i j : Int} (h1 : -(2 ^ 1100) < i) (h2 : i < 2 ^ 1100) (h3 : -(2 ^ 1100) < j) (h4 : j < 2 ^ 1100) : CMulW i j := wide_mul (a := 1100) (b := 1100) (by omega) (by omega) (by decide) (by decide) (by decide)
theorem cms {i j : Int} (h1 : -100000000000000000000 < i) (h2 : i < 100000000000000000000) (h3 : -100000000000000000000 < j) (h4 : j < 100000000000000000000) : CMulW i j := wide_mul (a := 70) (b := 70) (by omega) (by omega) (by decide) (by decide) (by decide)
theorem cdw {i j : Int} (h1 : 0 < j) (h2 : j < 100000000000000000000) : CDivW i j := wide_div (b := 70) h1 (by omega) (by decide) (by decide)
theorem cpw {i : Int} {n : Int} (h1 : 0 ≤ i) (h2 : i < 100000000000000000000) (h3 : 0 ≤ n) (h4 : n ≤ 100000) : CPowW i n := by
  refine ⟨h3, ?_⟩
  have b : Builtin.Int.intBits i ≤ i.natAbs.log2 + 1 := by
    unfold Builtin.Int.intBits
    split <;> omega
  have c : i.natAbs.log2 < 70 := log2_le (by omega) (by decide)
  have d : (Builtin.Int.intBits i : Int) ≤ 70 := by omega
  have e : (Builtin.Int.intBits i : Int) * n ≤ 70 * 100000 := Int.mul_le_mul d h4 h3 (by decide)
  have f : (70 * 100000 : Int) ≤ 2 ^ 27 := by decide
  omega
theorem mulB {x y a b c : Int} (h1 : 0 ≤ x) (h2 : x ≤ a) (h3 : 0 ≤ y) (h4 : y ≤ b) (h5 : a * b ≤ c) : 0 ≤ x * y ∧ x * y ≤ c := by
  refine ⟨Int.mul_nonneg h1 h3, Int.le_trans (Int.mul_le_mul h2 h4 h3 (Int.le_trans h1 h2)) h5⟩
theorem at_mem {xs : List V} {i : Int} (h1 : 0 ≤ i) (h2 : i < xs.length) : ∃ v, atI xs i = some v ∧ v ∈ xs := by
  obtain ⟨j, rfl⟩ := Int.eq_ofNat_of_zero_le h1
  have hj : j < xs.length := by omega
  exact ⟨xs[j], atI_nat (List.getElem?_eq_getElem hj), List.getElem_mem hj⟩
theorem div_sz {x u : Int} {k : Nat} (h1 : 0 ≤ x) (h2 : x.natAbs < 2 ^ k) (h3 : 0 < u) : 0 ≤ x / u ∧ (x / u).natAbs < 2 ^ k := by
  have a : 0 ≤ x / u := Int.ediv_nonneg h1 (Int.le_of_lt h3)
  have b : x / u ≤ x := Int.ediv_le_self _ h1
  exact ⟨a, by omega⟩

/-! ### loops and comprehensions over any walk -/
theorem for_J {J : It} {n : Nat} {g : TG} {tb : TS} {D : Ends} {σ : L2.St} {H : Hp} (Pv : Nat → L2.St → Hp → Prop) (h0 : Pv 0 σ H) (hgo : ∀ i σ H, i < n → Pv i σ H → J.go i H) (hstop : ∀ σ H, Pv n σ H → J.stop n H)
    (hs : ∀ (i : Nat) (x : V) (σ : L2.St) (H H' : Hp), i < n → Pv i σ H → J.yld i H x H' → g x σ H' fun σ2 H2 => tb { D with nx := Pv (i + 1), ct := Pv (i + 1), bk := D.nx } σ2 H2) (hd : ∀ σ H, Pv n σ H → D.nx σ H) :
    ∃ W : Nat → Nat → L2.St → Hp → Prop, (∃ m, W 0 m σ H) ∧ ∀ i m σ H, W i m σ H →
      (J.stop i H ∧ D.nx σ H) ∨ (J.go i H ∧ ∃ N : L2.St → Hp → Prop, (∀ σ' H', N σ' H' → ∃ m', m' < m ∧ W (i + 1) m' σ' H') ∧ ∀ x H', J.yld i H x H' → g x σ H' fun σ2 H2 => tb { D with nx := N, ct := N, bk := D.nx } σ2 H2) := by
  refine ⟨fun i m σ H => m = n - i ∧ i ≤ n ∧ Pv i σ H, ⟨n, by simp, Nat.zero_le _, h0⟩, ?_⟩
  rintro i m σ H ⟨rfl, hi, p⟩
  by_cases hlt : i < n
  · exact .inr ⟨hgo i σ H hlt p, Pv (i + 1), fun σ' H' p' => ⟨n - (i + 1), by omega, rfl, hlt, p'⟩, fun x H' y => hs i x σ H H' hlt p y⟩
  · have : i = n := by omega
    subst this
    exact .inl ⟨hstop σ H p, hd σ H p⟩
theorem lc_J {J : It} {n : Nat} {g : TG} {tt : TT} {te : TE} {vs : List Nat} {σ : L2.St} {H1 : Hp} {D : Addr} {Qd : Hp → Prop} (Pv : Nat → Hp → Prop) (h0 : Pv 0 (upd H1 D (.lst []))) (hgo : ∀ i H, i < n → Pv i H → J.go i H) (hstop : ∀ H, Pv n H → J.stop n H)
    (hs : ∀ (i : Nat) (x : V) (H H' : Hp), i < n → Pv i H → J.yld i H x H' → g x (wipe σ vs) H' fun σ2 H2 => wipe σ2 vs = wipe σ vs ∧ tt σ2 H2 fun b H3 =>
      if b = true then te σ2 H3 fun y H4 => ∃ acc, H4 D = some (.lst acc) ∧ acc.length < sizeLine ∧ Pv (i + 1) (upd H4 D (.lst (acc ++ [y]))) else Pv (i + 1) H3) (hd : ∀ H, Pv n H → Qd H) :
    ∃ W : Nat → Nat → Hp → Prop, (∃ m, W 0 m (upd H1 D (.lst []))) ∧ ∀ i m H, W i m H →
      (J.stop i H ∧ Qd H) ∨ (J.go i H ∧ ∃ Nx : Hp → Prop, (∀ H', Nx H' → ∃ m', m' < m ∧ W (i + 1) m' H') ∧ ∀ x H', J.yld i H x H' → g x (wipe σ vs) H' fun σ2 H2 => wipe σ2 vs = wipe σ vs ∧ tt σ2 H2 fun b H3 =>
        if b = true then te σ2 H3 fun y H4 => ∃ acc, H4 D = some (.lst acc) ∧ acc.length < sizeLine ∧ Nx (upd H4 D (.lst (acc ++ [y]))) else Nx H3) := by
  refine ⟨fun i m H => m = n - i ∧ i ≤ n ∧ Pv i H, ⟨n, by simp, Nat.zero_le _, h0⟩, ?_⟩
  rintro i m H ⟨rfl, hi, p⟩
  by_cases hlt : i < n
  · exact .inr ⟨hgo i H hlt p, Pv (i + 1), fun H' p' => ⟨n - (i + 1), by omega, rfl, hlt, p'⟩, fun x H' y => hs i x H H' hlt p y⟩
  · have : i = n := by omega
    subst this
    exact .inl ⟨hstop H p, hd H p⟩
/-- every turn gives an item: Iv what holds between the turns, Vp of the items -/
theorem lc_acc {J : It} {n : Nat} {g : TG} {te : TE} {vs : List Nat} {σ : L2.St} {H1 : Hp} {D : Addr} {Qd : Hp → Prop} (Iv : Nat → Hp → Prop) (Vp : Nat → V → Prop) (hn : n ≤ 1000000) (h0 : Iv 0 (upd H1 D (.lst [])))
    (stab : ∀ i H acc acc', Iv i H → H D = some (.lst acc) → Iv i (upd H D (.lst acc'))) (hgo : ∀ i H, i < n → Iv i H → J.go i H) (hstop : ∀ H, Iv n H → J.stop n H)
    (hs : ∀ (i : Nat) (x : V) (H H' : Hp) (acc : List V), i < n → Iv i H → H D = some (.lst acc) → J.yld i H x H' → ∀ R : V → Hp → Prop, (∀ v H4, H4 D = some (.lst acc) → Vp i v → Iv (i + 1) H4 → R v H4) →
      g x (wipe σ vs) H' fun σ2 H2 => wipe σ2 vs = wipe σ vs ∧ te σ2 H2 R)
    (hd : ∀ H acc, acc.length = n → (∀ i v, acc[i]? = some v → Vp i v) → H D = some (.lst acc) → Iv n H → Qd H) :
    ∃ W : Nat → Nat → Hp → Prop, (∃ m, W 0 m (upd H1 D (.lst []))) ∧ ∀ i m H, W i m H →
      (J.stop i H ∧ Qd H) ∨ (J.go i H ∧ ∃ Nx : Hp → Prop, (∀ H', Nx H' → ∃ m', m' < m ∧ W (i + 1) m' H') ∧ ∀ x H', J.yld i H x H' → g x (wipe σ vs) H' fun σ2 H2 => wipe σ2 vs = wipe σ vs ∧ tYes σ2 H2 fun b H3 =>
        if b = true then te σ2 H3 fun y H4 => ∃ acc, H4 D = some (.lst acc) ∧ acc.length < sizeLine ∧ Nx (upd H4 D (.lst (acc ++ [y]))) else Nx H3) := by
  refine lc_J (n := n) (fun i H => Iv i H ∧ ∃ acc, acc.length = i ∧ (∀ j v, acc[j]? = some v → Vp j v) ∧ H D = some (.lst acc)) ⟨h0, [], rfl, fun j v e => by simp at e, upd_same⟩ (fun i H hi p => hgo i H hi p.1) (fun H p => hstop H p.1) ?_ ?_
  · rintro i x H H' hi ⟨p, acc, hl, hv, e⟩ y
    refine hs i x H H' acc hi p e y _ fun v H4 e4 vp p4 => ⟨acc, e4, lt_line (by omega), stab _ _ _ _ p4 e4, acc ++ [v], by simp [hl], fun j u ej => ?_, upd_same⟩
    rw [List.getElem?_append] at ej
    split at ej
    · exact hv j u ej
    · have hj : j = i := by
        have := (List.getElem?_eq_some_iff.mp ej).1
        simp at this
        omega
      subst hj
      rw [hl, Nat.sub_self] at ej
      have : v = u := Option.some.inj ej
      exact this ▸ vp
  · rintro H ⟨p, acc, hl, hv, e⟩
    exact hd H acc hl hv e p
theorem all_true {acc : List V} {n : Nat} (hl : acc.length = n) (h : ∀ (i : Nat) v, acc[i]? = some v → v = .bl true) : acc = List.replicate n (.bl true) := by
  rw [← hl]
  exact List.eq_replicate_iff.mpr ⟨rfl, fun b hb => by
    obtain ⟨i, hi, e⟩ := List.getElem_of_mem hb
    exact h i b (by rw [List.getElem?_eq_getElem hi, e])⟩
section
variable {K : PySem.W.Frag} {H : Hp} {Q : VK} {σ : L2.St} {tA : TA}
theorem r_iRng1 {R : It → Hp → Prop} (h : tA σ H fun vs H1 => ∃ j, vs = [.int j] ∧ -(2 ^ 62) ≤ j ∧ j < 2 ^ 62 ∧ R (Itr 0 j.toNat) H1) : iRng1 tA σ H R := h
theorem r_iRng2 {R : It → Hp → Prop} (h : tA σ H fun vs H1 => ∃ i j : Int, vs = [.int i, .int j] ∧ (-(2 ^ 62) ≤ i ∧ i < 2 ^ 62 ∧ -(2 ^ 62) ≤ j ∧ j < 2 ^ 62) ∧ R (Itr i (j - i).toNat) H1) : iRng2 tA σ H R := h
theorem r_iZip {R : It → Hp → Prop} (h : tA σ H fun vs H1 => ∃ a b xs ys, vs = [.ref a, .ref b] ∧ ((SqL K H1 a xs ∧ SqL K H1 b ys ∧ R (Itz K a b) H1) ∨ (SqT K H1 a xs ∧ SqT K H1 b ys ∧ R (RZ.ItzT K a b) H1))) : RZ.iZipA K tA σ H R := h
theorem r_then {ta : TE} {k : V → Hp → VK → Prop} (h : ta σ H fun x H1 => k x H1 Q) : tThen ta k σ H Q := h
end
/-- told and due are the same data, nested so deep; bo: truth values, too -/
def Sc (bo : Bool) (x y : V) : Prop := (∃ i, x = .int i ∧ y = .int i) ∨ (∃ l, x = .str l ∧ y = .str l) ∨ (x = .non ∧ y = .non) ∨ (bo = true ∧ ∃ b, x = .bl b ∧ y = .bl b)
def Eqv (K : PySem.W.Frag) (H : Hp) (bo : Bool) : Nat → V → V → Prop
  | 0, x, y => Sc bo x y
  | n + 1, x, y => Sc bo x y ∨ ∃ a b xs ys, x = .ref a ∧ y = .ref b ∧ SqT K H a xs ∧ SqT K H b ys ∧ xs.length = ys.length ∧ xs.length ≤ 1000000 ∧ ∀ (i : Nat) (x y : V), xs[i]? = some x → ys[i]? = some y → Eqv K H bo n x y
section
variable {K : PySem.W.Frag} {H H' : Hp} {bo : Bool}
theorem Eqv.same (e : Same H H') : ∀ {n : Nat} {x y : V}, Eqv K H bo n x y → Eqv K H' bo n x y
  | 0, _, _, h => h
  | n + 1, x, y, h => by
    rcases h with h | ⟨a, b, xs, ys, h1, h2, h3, h4, h5, h6, h7⟩
    · exact .inl h
    · exact .inr ⟨a, b, xs, ys, h1, h2, Same.sqt e h3, Same.sqt e h4, h5, h6, fun i x y e1 e2 => Eqv.same e (h7 i x y e1 e2)⟩
theorem Eqv.sc {n : Nat} {x y : V} (h : Sc bo x y) : Eqv K H bo n x y := by
  cases n with
  | zero => exact h
  | succ n => exact .inl h
theorem Eqv.int {n : Nat} {i : Int} : Eqv K H bo n (.int i) (.int i) := Eqv.sc (.inl ⟨i, rfl, rfl⟩)
theorem Eqv.str {n : Nat} {l : Str} : Eqv K H bo n (.str l) (.str l) := Eqv.sc (.inr (.inl ⟨l, rfl, rfl⟩))
theorem Eqv.non {n : Nat} : Eqv K H bo n .non .non := Eqv.sc (.inr (.inr (.inl ⟨rfl, rfl⟩)))
theorem Eqv.bl {n : Nat} {b : Bool} : Eqv K H true n (.bl b) (.bl b) := Eqv.sc (.inr (.inr (.inr ⟨rfl, b, rfl, rfl⟩)))
theorem Eqv.tup {n : Nat} {a b : Addr} {xs ys : List V} (h3 : SqT K H a xs) (h4 : SqT K H b ys) (h5 : xs.length = ys.length) (h6 : xs.length ≤ 1000000)
    (h7 : ∀ (i : Nat) (x y : V), xs[i]? = some x → ys[i]? = some y → Eqv K H bo n x y) : Eqv K H bo (n + 1) (.ref a) (.ref b) := .inr ⟨a, b, xs, ys, rfl, rfl, h3, h4, h5, h6, h7⟩
/-- a tuple of which all items are plain, twice -/
theorem Eqv.flat {n : Nat} {a b : Addr} {xs : List V} (h3 : SqT K H a xs) (h4 : SqT K H b xs) (h6 : xs.length ≤ 1000000) (h7 : ∀ x ∈ xs, Sc bo x x) : Eqv K H bo (n + 1) (.ref a) (.ref b) :=
  Eqv.tup h3 h4 rfl h6 fun i x y e1 e2 => by
    have e : x = y := Option.some.inj (e1.symm.trans e2)
    subst e
    exact Eqv.sc (h7 x (List.mem_of_getElem? e1))
end
/-! ### s[::-1] -/
def rRev : V → Hp → VK → Prop := fun x H Q => ∃ z, x = .str z ∧ z.length ≤ sizeLine ∧ Q (.str ⟨z.cps.toList.reverse.toArray⟩) H
def tRevS (te : TE) : TE := fun σ H Q => te σ H fun x H1 => rRev x H1 Q
theorem rev_pick (z : Str) : ((Builtin.Str.strSliceIndices none none (-1) z.length).filterMap (z.cps[·]?)).toArray = z.cps.toList.reverse.toArray := by
  show ((sliceRange ((z.cps.size : Int) - 1) (-1) (-1)).filterMap (z.cps[·]?)).toArray = _
  rw [PySem.W.krv_sliceRange, PySem.W.krv_range, List.filterMap_reverse, PySem.W.krv_all]
theorem pe_revS {X : Cx} {e : Expr} {te : TE} {k : Nat} {p1 p2 p3 pos : Pos} (he : PE X e te) : PE X (.Subscript e (.Slice none none (some (.UnaryOp .USub (.Constant (.int 1) k p1) p2)) p3) pos) (tRevS te) := by
  refine ⟨fun pins s σ H Q I h => ?_⟩
  refine Subscript_ (thn (he.run pins s σ H _ I h) fun v s1 ⟨x, H1, I1, r1, q1⟩ => ?_)
  obtain ⟨z, rfl, hz, q⟩ := q1
  obtain ⟨t, rfl⟩ := r1
  have hst : PO X (some (.UnaryOp .USub (.Constant (.int 1) k p1) p2)) (tPart (tUn (rU fun i => .int (-i)) (tC (.int 1)))) := po_some (pe_un un_neg pe_int)
  refine wpAny_Slice (thn (po_none.run pins s1 σ H1 (fun o H2 => o = none ∧ H2 = H1) I1 ⟨rfl, rfl⟩) fun vl s2 ⟨l, H2, I2, pl, el, e2⟩ => ?_)
  subst el e2
  refine thn (po_none.run pins s2 σ H2 (fun o H3 => o = none ∧ H3 = H2) I2 ⟨rfl, rfl⟩) fun vu s3 ⟨u, H3, I3, pu, eu, e3⟩ => ?_
  subst eu e3
  refine thn (hst.run pins s3 σ H3 (fun o H4 => o = some (-1) ∧ H4 = H3) I3 ⟨1, rfl, -1, rfl, rfl, rfl⟩) fun vs s4 ⟨o, H4, I4, ps, eo, e4⟩ => ?_
  subst eo e4
  have I5 : Inv X pins σ H4 { s4 with heap := s4.heap.push { cls := .type "slice", data := .fields #[vl, vu, vs] } } := I4.kept (t' := s4.toks) fun b ob q => Heap.get?_push_of_some _ q
  obtain ⟨l, rfl, hl⟩ := IsPart.raw pl
  obtain ⟨u, rfl, hu⟩ := IsPart.raw pu
  obtain ⟨st, rfl, hs⟩ := IsPart.raw ps
  have hz2 : (⟨((Builtin.Str.strSliceIndices none none (-1) z.length).filterMap (z.cps[·]?)).toArray⟩ : Str).length ≤ sizeLine := by
    rw [rev_pick]
    show (z.cps.toList.reverse.toArray).size ≤ sizeLine
    rw [List.size_toArray, List.length_reverse, Array.length_toList]
    exact hz
  rw [← rev_pick] at q
  refine tail_any (ops := [.ref s4.heap.objs.size, .str z t]) (typeIs_str _ _ _) (F.slot_str_getitem.lookup) ?_ (by with_unfolding_all rfl)
  refine wpAny_getItem_str_slice (l := l) (u := u) (st := st) ⟨_, Heap.get?_push_size _ rfl, rfl, rfl⟩ (by rw [hs]; decide) ?_
  unfold sliceMade
  rw [hs]
  rw [if_neg (by simp)]
  unfold slicePicked
  rw [hs, hl, hu]
  exact ⟨hz2, .str _, _, I5.tok _, ⟨_, rfl⟩, q⟩
/-! ### the head -/
abbrev AlX : Type := He.AlD × Bool
def obsX (n : Nat) (fa : List He.Fa) (fn : List He.DefD) (ex : PySem.W.Frag → Bool) (g : Addr → Option Obj) : AlX := (He.obsDG n fa fn g, ex (He.frG g (He.asD g n)))
def hookX (n : Nat) (fa : List He.Fa) (fn : List He.DefD) (ex : PySem.W.Frag → Bool) : PySem.W.Hook where
  α := AlX
  obs := fun s => obsX n fa fn ex s.heap.get?
  val := fun _ => (He.valD fn, true)
  says := fun _ h => ∃ K : PySem.W.Frag, K.In h ∧ He.SaysD fa fn K ∧ ex K = true
  of := fun _ _ e => ⟨_, He.frG_in, congrArg (fun z : AlX => z.1) e, congrArg (fun z : AlX => z.2) e⟩
  keeps := fun _ _ _ ⟨K, hK, c⟩ k => ⟨K, PySem.W.Frag.In.keeps hK k, c⟩
theorem obsX_eq {n : Nat} {fa : List He.Fa} {fn : List He.DefD} {ex : PySem.W.Frag → Bool} {g : Addr → Option Obj} {s : Shared} (h : ∀ a, g a = s.heap.get? a) : obsX n fa fn ex g = (hookX n fa fn ex).obs s := by
  have e : g = s.heap.get? := funext h
  rw [e] <;> rfl
theorem Ok.at {P : Program} {w : World} {K : PySem.W.Frag} {mg : Str → Option Value} {base : Heap} {CX : CXT} {k : Nat} {x : Str} {st : Stmt} {ps : List Str} {sp : Sp} (o : Ok P w K mg base CX k x st ps sp) {f : Addr} {fd : FuncData} (g : mg x = some (.ref f)) (D : FnP K x st f fd) :
    FnOk P w K mg base CX k f fd ps sp := by
  obtain ⟨f', fd', g', D', b, F⟩ := o.ex
  rw [g] at g'
  cases g'
  obtain ⟨_, _, _, _, _, _, _, _, _, _, e1, l1, _⟩ := D.ex
  obtain ⟨_, _, _, _, _, _, _, _, _, _, e2, l2, _⟩ := D'.ex
  rw [l1] at l2
  have e : fd = fd' := by
    injection l2 with l2
    injection l2 with _ _ l2
    injection l2
  subst e
  exact F
end Tf

set_option linter.all false
set_option maxRecDepth 100000
set_option maxHeartbeats 2000000
/-! mathematics of words, places, numbers -/
namespace Tf
open PySem L2
/-- where a fate stands behind a place -/
def ix (p : Int) (c : Nat) : Nat := if p % 2 = 0 then (if c = 115 then 0 else if c = 110 then 1 else 2) else (if c = 102 then 0 else if c = 110 then 1 else 2)
def pst (p : Int) (c : Nat) : Int := 3 * p + (ix p c : Nat)
def pl (l : List Nat) : Int := l.foldl pst 0
def nu (p : Int) : Int × Int := if p % 2 = 0 then (p, p + 1) else (p + 1, p)
theorem pl_snoc (l : List Nat) (c : Nat) : pl (l ++ [c]) = pst (pl l) c := by unfold pl; rw [List.foldl_append]; rfl
theorem take_snoc {l : List Nat} {i c : Nat} (e : l[i]? = some c) : l.take (i + 1) = l.take i ++ [c] := by rw [List.take_add_one, e]; rfl
theorem behind_ix (p : Int) {c : Nat} (h : c = 110 ∨ c = 102 ∨ c = 115) : ∃ z : List Nat, atI [V.str (S [115, 110, 102]), V.str (S [102, 110, 115])] (p % 2) = some (.str (S z)) ∧ ∃ rest, Builtin.Str.occurrences (S z) (S [c]) 0 (S z).length 1 = ix p c :: rest := by
  rcases (show p % 2 = 0 ∨ p % 2 = 1 by omega) with e | e
  · refine ⟨[115, 110, 102], by rw [e]; rfl, ?_⟩
    rcases h with rfl | rfl | rfl
    · exact ⟨[], by unfold ix; rw [if_pos e]; decide +kernel⟩
    · exact ⟨[], by unfold ix; rw [if_pos e]; decide +kernel⟩
    · exact ⟨[], by unfold ix; rw [if_pos e]; decide +kernel⟩
  · refine ⟨[102, 110, 115], by rw [e]; rfl, ?_⟩
    have e' : ¬ p % 2 = 0 := by omega
    rcases h with rfl | rfl | rfl
    · exact ⟨[], by unfold ix; rw [if_neg e']; decide +kernel⟩
    · exact ⟨[], by unfold ix; rw [if_neg e']; decide +kernel⟩
    · exact ⟨[], by unfold ix; rw [if_neg e']; decide +kernel⟩
/-- hearing -/
def hst (q : Int × Int) (c : Nat) : Int × Int := (if c = 115 then 3 * q.1 else q.1 + 2 * q.2, if c = 102 then 3 * q.2 else q.2 + 2 * q.1)
theorem hst_nu (p : Int) {c : Nat} (h : c = 110 ∨ c = 102 ∨ c = 115) : hst (nu p) c = nu (pst p c) := by
  unfold hst nu pst ix
  rcases (show p % 2 = 0 ∨ p % 2 = 1 by omega) with e | e
  · rcases h with rfl | rfl | rfl <;> simp [e] <;> split <;> simp <;> omega
  · rcases h with rfl | rfl | rfl <;> simp [e] <;> split <;> simp <;> omega
theorem ix_le (p : Int) (c : Nat) : ix p c ≤ 2 := by unfold ix; split <;> split <;> (try split) <;> omega
theorem pl_nn (l : List Nat) : 0 ≤ pl l := by
  have key : ∀ (l : List Nat) (p : Int), 0 ≤ p → 0 ≤ l.foldl pst p := by
    intro l
    induction l with
    | nil => intro p h; exact h
    | cons c l ih => intro p h; rw [List.foldl_cons]; exact ih _ (by unfold pst; omega)
  exact key l 0 (by decide)
theorem pl_lt (l : List Nat) : pl l < 3 ^ l.length := by
  have key : ∀ (l : List Nat) (p m : Int), p < m → 0 ≤ p → l.foldl pst p < m * 3 ^ l.length := by
    intro l
    induction l with
    | nil => intro p m h _; simpa using h
    | cons c l ih =>
      intro p m h h0
      rw [List.foldl_cons, List.length_cons, Int.pow_succ]
      have h1 := ix_le p c
      have := ih (pst p c) (3 * m) (by unfold pst; omega) (by unfold pst; omega)
      have e : 3 * m * 3 ^ l.length = m * (3 ^ l.length * 3) := by rw [Int.mul_comm (3 ^ l.length) 3, ← Int.mul_assoc, Int.mul_comm m 3]
      rw [← e]
      exact this
  have := key l 0 1 (by decide) (by decide)
  rw [Int.one_mul] at this
  exact this
theorem pow3_pos (n : Nat) : (0 : Int) < 3 ^ n := Int.pow_pos (by decide)
theorem pow3_odd (n : Nat) : (3 : Int) ^ n % 2 = 1 := by
  induction n with
  | zero => rfl
  | succ n ih => rw [Int.pow_succ]; omega
/-- the left end -/
theorem pl_zero (l : List Nat) (h : Wd l) : pl l = 0 ↔ l = List.replicate l.length 115 := by
  have key : ∀ (l : List Nat), Wd l → ∀ p : Int, 0 ≤ p → (l.foldl pst p = 0 ↔ p = 0 ∧ l = List.replicate l.length 115) := by
    intro l
    induction l with
    | nil => intro _ p hp; simp
    | cons c l ih =>
      intro hw p hp
      have hc := hw c List.mem_cons_self
      have hl : Wd l := fun x hx => hw x (List.mem_cons_of_mem _ hx)
      have h0 : 0 ≤ pst p c := by unfold pst; omega
      rw [List.foldl_cons, ih hl _ h0, List.length_cons, List.replicate_succ, List.cons.injEq]
      have : pst p c = 0 ↔ p = 0 ∧ c = 115 := by
        constructor
        · intro e
          have hp0 : p = 0 := by unfold pst at e; omega
          subst hp0
          refine ⟨rfl, ?_⟩
          unfold pst ix at e
          rcases hc with rfl | rfl | rfl
          · exact absurd e (by decide)
          · exact absurd e (by decide)
          · rfl
        · rintro ⟨rfl, rfl⟩
          decide
      rw [this, and_assoc]
  have := key l h 0 (by decide)
  unfold pl
  rw [this]
  simp
/-- the right end -/
theorem pl_top (l : List Nat) (h : Wd l) : pl l = 3 ^ l.length - 1 ↔ l = List.replicate l.length 102 := by
  have key : ∀ (l : List Nat), Wd l → ∀ p m : Int, 0 ≤ p → p ≤ m → m % 2 = 0 → (l.foldl pst p = (m + 1) * 3 ^ l.length - 1 ↔ p = m ∧ l = List.replicate l.length 102) := by
    intro l
    induction l with
    | nil => intro _ p m _ _ _; simp
    | cons c l ih =>
      intro hw p m hp hm he
      have hc := hw c List.mem_cons_self
      have hl : Wd l := fun x hx => hw x (List.mem_cons_of_mem _ hx)
      have h0 : 0 ≤ pst p c := by unfold pst; omega
      have h1 := ix_le p c
      have h2 : pst p c ≤ 3 * m + 2 := by unfold pst; omega
      have e1 : (m + 1) * 3 ^ (l.length + 1) - 1 = (3 * m + 2 + 1) * 3 ^ l.length - 1 := by
        rw [Int.pow_succ, Int.mul_comm (3 ^ l.length) 3, ← Int.mul_assoc, show (m + 1) * 3 = 3 * m + 2 + 1 by omega]
      rw [List.foldl_cons, List.length_cons, e1, ih hl _ (3 * m + 2) h0 h2 (by omega), List.replicate_succ, List.cons.injEq]
      have : pst p c = 3 * m + 2 ↔ p = m ∧ c = 102 := by
        constructor
        · intro e
          have hp0 : p = m := by unfold pst at e; omega
          subst hp0
          refine ⟨rfl, ?_⟩
          unfold pst ix at e
          rw [if_pos he] at e
          rcases hc with rfl | rfl | rfl
          · simp at e
          · rfl
          · simp at e; omega
        · rintro ⟨rfl, rfl⟩
          unfold pst ix
          rw [if_pos he]
          simp
      rw [this, and_assoc]
  have := key l h 0 0 (by decide) (by decide) (by decide)
  unfold pl
  simp only [Int.zero_add, Int.one_mul] at this
  rw [this]
  simp
theorem fate_of {x : V} (h : x ∈ ([110, 102, 115] : List Nat).map fun c => V.str (S [c])) : ∃ c : Nat, x = .str (S [c]) ∧ (c = 110 ∨ c = 102 ∨ c = 115) := by
  simp only [List.map_cons, List.map_nil, List.mem_cons, List.not_mem_nil, or_false] at h
  rcases h with rfl | rfl | rfl
  · exact ⟨110, rfl, by decide⟩
  · exact ⟨102, rfl, by decide⟩
  · exact ⟨115, rfl, by decide⟩
theorem chars_of : ∀ {acc : List V}, (∀ (i : Nat) (v : V), acc[i]? = some v → ∃ c : Nat, v = .str (S [c]) ∧ (c = 110 ∨ c = 102 ∨ c = 115)) → ∃ l : List Nat, acc = l.map (fun c => V.str (S [c])) ∧ Wd l ∧ l.length = acc.length
  | [], _ => ⟨[], rfl, Wd.nil, rfl⟩
  | v :: r, h => by
    obtain ⟨c, rfl, hc⟩ := h 0 v rfl
    obtain ⟨l, e1, e2, e3⟩ := chars_of (acc := r) fun i u e => h (i + 1) u e
    exact ⟨c :: l, by rw [e1]; rfl, fun x hx => by
      rcases List.mem_cons.mp hx with rfl | hx
      · exact hc
      · exact e2 x hx, by rw [List.length_cons, List.length_cons, e3]⟩
theorem flat_one : ∀ l : List Nat, (l.map fun c => [c]).flatten = l
  | [] => rfl
  | c :: l => by rw [List.map_cons, List.flatten_cons, flat_one l]; rfl
theorem r_joinC {K : PySem.W.Frag} {H : Hp} {Q : VK} {p : Addr} {l : List Nat} (hs : SqL K H p (l.map fun c => V.str (S [c]))) (hz : l.length ≤ 1000000) (q : Q (.str (S l)) H) : rJoin K (.str (S [])) [.ref p] H Q :=
  r_join (ys := l.map fun c => [c]) (by rw [List.map_map]; exact hs) (by rw [flat_one]; exact hz) (by rw [flat_one]; exact q)
theorem cut_take (l : List Nat) (n : Nat) : cutS (S l) none (some (n : Int)) = S (l.take n) := by
  by_cases h : n ≤ l.length
  · exact cut_to h
  · rw [cut_S, HT.sIx_nat, HT.sIx_none, List.take_of_length_le (show l.length ≤ n by omega)]
    simp
    congr 1
    exact List.take_of_length_le (by omega)
theorem rep_one (n c : Nat) : (List.replicate n [c]).flatten = List.replicate n c := by
  induction n with
  | zero => rfl
  | succ n ih => rw [List.replicate_succ, List.flatten_cons, ih, List.replicate_succ]; rfl
end Tf

set_option linter.all false
set_option maxRecDepth 100000
set_option maxHeartbeats 2000000
/-! mathematics of losses: endless rows that come again -/
namespace Tf
open PySem L2
/-- the row of head and ring -/
def rw (h r : List Nat) (i : Nat) : Nat := if i < h.length then h.getD i 0 else r.getD ((i - h.length) % r.length) 0
/-- f comes again after p, from m on -/
def Per (f : Nat → Nat) (m p : Nat) : Prop := ∀ i, m ≤ i → f (i + p) = f i
def seg (f : Nat → Nat) (a n : Nat) : List Nat := (List.range n).map fun j => f (a + j)
theorem seg_len (f : Nat → Nat) (a n : Nat) : (seg f a n).length = n := by simp [seg]
theorem seg_get {f : Nat → Nat} {a n i : Nat} (h : i < n) : (seg f a n)[i]? = some (f (a + i)) := by
  unfold seg
  rw [List.getElem?_map, List.getElem?_range h] <;> rfl
theorem seg_getD {f : Nat → Nat} {a n i : Nat} (h : i < n) : (seg f a n).getD i 0 = f (a + i) := by
  rw [List.getD_eq_getElem?_getD, seg_get h] <;> rfl
theorem seg_ext {f g : Nat → Nat} {a b n : Nat} (h : ∀ i, i < n → f (a + i) = g (b + i)) : seg f a n = seg g b n := by
  unfold seg
  exact List.map_congr_left fun i hi => h i (List.mem_range.mp hi)
theorem seg_inj {f g : Nat → Nat} {a b n : Nat} (h : seg f a n = seg g b n) : ∀ i, i < n → f (a + i) = g (b + i) := fun i hi => by
  have e := congrArg (fun l : List Nat => l[i]?) h
  simp only [seg_get hi] at e
  exact Option.some.inj e
theorem seg_take {f : Nat → Nat} {a n m : Nat} (h : m ≤ n) : (seg f a n).take m = seg f a m := by
  apply List.ext_getElem?
  intro i
  by_cases hi : i < m
  · rw [List.getElem?_take_of_lt hi, seg_get (by omega), seg_get hi]
  · rw [List.getElem?_eq_none (by rw [List.length_take, seg_len]; omega), List.getElem?_eq_none (by rw [seg_len]; omega)]
theorem seg_drop {f : Nat → Nat} {a n m : Nat} : (seg f a n).drop m = seg f (a + m) (n - m) := by
  apply List.ext_getElem?
  intro i
  rw [List.getElem?_drop]
  by_cases hi : i < n - m
  · rw [seg_get (by omega), seg_get hi, Nat.add_assoc]
  · rw [List.getElem?_eq_none (by rw [seg_len]; omega), List.getElem?_eq_none (by rw [seg_len]; omega)]
theorem seg_self (l : List Nat) : l = seg (fun i => l.getD i 0) 0 l.length := by
  apply List.ext_getElem?
  intro i
  by_cases hi : i < l.length
  · rw [seg_get hi, Nat.zero_add, List.getD_eq_getElem?_getD, List.getElem?_eq_getElem hi] <;> rfl
  · rw [List.getElem?_eq_none (by omega), List.getElem?_eq_none (by rw [seg_len]; omega)]
theorem seg_app {f : Nat → Nat} {a n m : Nat} : seg f a n ++ seg f (a + n) m = seg f a (n + m) := by
  apply List.ext_getElem?
  intro i
  rw [List.getElem?_append, seg_len]
  split
  · rename_i h
    rw [seg_get h, seg_get (by omega)]
  · rename_i h
    by_cases hi : i < n + m
    · rw [seg_get (by omega), seg_get hi]
      congr 2
      omega
    · rw [List.getElem?_eq_none (by rw [seg_len]; omega), List.getElem?_eq_none (by rw [seg_len]; omega)]

theorem Per.mono {f : Nat → Nat} {m m' p : Nat} (h : Per f m p) (hm : m ≤ m') : Per f m' p := fun i hi => h i (by omega)
theorem Per.mul {f : Nat → Nat} {m p : Nat} (h : Per f m p) : ∀ k, Per f m (p * k)
  | 0 => fun i _ => rfl
  | k + 1 => fun i hi => by
    have e := Per.mul h k (i + p) (by omega)
    rw [Nat.mul_succ, show i + (p * k + p) = i + p + p * k by omega, e]
    exact h i hi
theorem rw_lt {h r : List Nat} {i : Nat} (e : i < h.length) : rw h r i = h.getD i 0 := if_pos e
theorem rw_ge {h r : List Nat} {i : Nat} (e : h.length ≤ i) : rw h r i = r.getD ((i - h.length) % r.length) 0 := if_neg (by omega)
theorem rw_per (h r : List Nat) : Per (rw h r) h.length r.length := fun i hi => by
  rw [rw_ge (by omega), rw_ge hi, show i + r.length - h.length = i - h.length + r.length by omega, Nat.add_mod_right]
/-- a row that comes again is told by its beginning -/
theorem per_rw {f : Nat → Nat} {m p : Nat} (h : Per f m p) (hp : 0 < p) : rw (seg f 0 m) (seg f m p) = f := by
  funext i
  by_cases hi : i < m
  · rw [rw_lt (by rw [seg_len]; exact hi), seg_getD hi, Nat.zero_add]
  · rw [rw_ge (by rw [seg_len]; omega), seg_len, seg_len, seg_getD (Nat.mod_lt _ hp)]
    have e := h.mul ((i - m) / p) (m + (i - m) % p) (by omega)
    rw [← e]
    congr 1
    have := Nat.mod_add_div (i - m) p
    omega
theorem rw_head (h r : List Nat) : seg (rw h r) 0 h.length = h := by
  conv => rhs; rw [seg_self h]
  exact seg_ext fun i hi => by rw [Nat.zero_add]; exact rw_lt hi
theorem rw_ring (h r : List Nat) : seg (rw h r) h.length r.length = r := by
  conv => rhs; rw [seg_self r]
  exact seg_ext fun i hi => by
    rw [rw_ge (by omega), Nat.zero_add, Nat.add_sub_cancel_left, Nat.mod_eq_of_lt hi]
/-- two rows that agree so far agree for ever -/
theorem fine_wilf {f g : Nat → Nat} {m p q : Nat} (hf : Per f m p) (hg : Per g m q) (hp : 0 < p) (hq : 0 < q) (e : ∀ i, i < m + p + q → f i = g i) : f = g := by
  funext i
  induction i using Nat.strongRecOn with
  | _ i ih =>
    by_cases hi : i < m + p + q
    · exact e i hi
    · have f1 : f i = f (i - p) := by
        have := hf (i - p) (by omega)
        rwa [show i - p + p = i by omega] at this
      have g1 : g i = g (i - q) := by
        have := hg (i - q) (by omega)
        rwa [show i - q + q = i by omega] at this
      have f2 : f (i - q) = f (i - q - p) := by
        have := hf (i - q - p) (by omega)
        rwa [show i - q - p + p = i - q by omega] at this
      have g2 : g (i - p) = g (i - p - q) := by
        have := hg (i - p - q) (by omega)
        rwa [show i - p - q + q = i - p by omega] at this
      rw [f1, ih (i - p) (by omega), g2, show i - p - q = i - q - p by omega, ← ih (i - q - p) (by omega), ← f2, ih (i - q) (by omega), ← g1]
/-- the least: the shortest head, then the shortest ring -/
structure IsMin (f : Nat → Nat) (m p : Nat) : Prop where
  pos : 0 < p
  per : Per f m p
  head : ∀ m' p', 0 < p' → Per f m' p' → m ≤ m'
  ring : ∀ p', 0 < p' → Per f m p' → p ≤ p'
theorem IsMin.uniq {f : Nat → Nat} {m p m' p' : Nat} (a : IsMin f m p) (b : IsMin f m' p') : m = m' ∧ p = p' := by
  have e : m = m' := Nat.le_antisymm (a.head _ _ b.pos b.per) (b.head _ _ a.pos a.per)
  subst e
  exact ⟨rfl, Nat.le_antisymm (a.ring _ b.pos b.per) (b.ring _ a.pos a.per)⟩
theorem per_down {f : Nat → Nat} {m m' p q : Nat} (hp : Per f m p) (h0 : 0 < p) (hq : Per f m' q) : Per f m q := fun i hi => by
  have e1 := hp.mul m' i hi
  have e2 := hp.mul m' (i + q) (by omega)
  have : m' ≤ i + p * m' := by
    have : 1 * m' ≤ p * m' := Nat.mul_le_mul_right _ h0
    omega
  have e3 := hq (i + p * m') this
  rw [← e2, ← e1, ← e3]
  congr 1
  omega
theorem IsMin.le {f : Nat → Nat} {m p m' p' : Nat} (a : IsMin f m p) (h0 : 0 < p') (h : Per f m' p') : m ≤ m' ∧ p ≤ p' := ⟨a.head _ _ h0 h, a.ring _ h0 (per_down a.per a.pos h)⟩
theorem least_ex {P : Nat → Prop} (n : Nat) (h : P n) : ∃ m, P m ∧ ∀ k, P k → m ≤ k := by
  induction n using Nat.strongRecOn with
  | _ n ih =>
    by_cases e : ∃ k, k < n ∧ P k
    · obtain ⟨k, hk, pk⟩ := e
      exact ih k hk pk
    · exact ⟨n, h, fun k pk => by
        by_cases hk : k < n
        · exact absurd ⟨k, hk, pk⟩ e
        · omega⟩
/-- of all periods the least one goes into each -/
theorem per_dvd {f : Nat → Nat} {m p q : Nat} (h0 : 0 < p) (hp : Per f m p) (hl : ∀ p', 0 < p' → Per f m p' → p ≤ p') (hq : Per f m q) : p ∣ q := by
  have h : Per f m (q % p) := fun i hi => by
    have e := hp.mul (q / p) (i + q % p) (by omega)
    rw [show i + q % p + p * (q / p) = i + q by have := Nat.mod_add_div q p; omega] at e
    rw [← e]
    exact hq i hi
  by_cases z : q % p = 0
  · exact Nat.dvd_of_mod_eq_zero z
  · have := hl _ (Nat.pos_of_ne_zero z) h
    have := Nat.mod_lt q h0
    omega
/-- the letters of a loss, as the row -/
theorem letters_seg {h r : List Nat} {n k : Nat} (hr : 0 < r.length) (hn : n ≤ h.length + k * r.length) : (h ++ (List.replicate k r).flatten).take n = seg (rw h r) 0 n := by
  have key : ∀ k, h ++ (List.replicate k r).flatten = seg (rw h r) 0 (h.length + k * r.length) := by
    intro k
    induction k with
    | zero =>
      rw [Nat.zero_mul, Nat.add_zero, rw_head]
      simp
    | succ k ih =>
      rw [List.replicate_succ', List.flatten_append, ← List.append_assoc, ih, List.flatten_cons, List.flatten_nil, List.append_nil]
      have e : seg (rw h r) (0 + (h.length + k * r.length)) r.length = r := by
        conv => rhs; rw [← rw_ring h r]
        exact seg_ext fun i hi => by
          rw [show 0 + (h.length + k * r.length) + i = h.length + i + r.length * k by rw [Nat.mul_comm]; omega]
          exact (rw_per h r).mul k _ (by omega)
      rw [Nat.succ_mul, ← Nat.add_assoc]
      conv => lhs; rhs; rw [← e]
      exact seg_app
  rw [key k]
  exact seg_take hn
theorem rep_len_mul (k : Nat) (r : List Nat) : (List.replicate k r).flatten.length = k * r.length := by
  induction k with
  | zero => simp
  | succ k ih => rw [List.replicate_succ, List.flatten_cons, List.length_append, ih, Nat.succ_mul, Nat.add_comm]
theorem per_mod {f : Nat → Nat} {p : Nat} (h : Per f 0 p) (i : Nat) : f i = f (i % p) := by
  have e := h.mul (i / p) (i % p) (Nat.zero_le _)
  rw [Nat.mod_add_div] at e
  exact e
theorem seg_nil (f : Nat → Nat) (a : Nat) : seg f a 0 = [] := rfl
theorem take_seg (r : List Nat) {d : Nat} (h : d ≤ r.length) : r.take d = seg (rw [] r) 0 d := by
  conv => lhs; rw [← rw_ring [] r]
  exact seg_take h
theorem ring_check {r : List Nat} {d : Nat} (h0 : 0 < d) (h1 : d ≤ r.length) : (List.replicate (r.length / d) (r.take d)).flatten = r ↔ (Per (rw [] r) 0 d ∧ d ∣ r.length) := by
  have hl : (r.take d).length = d := by rw [List.length_take]; omega
  have e1 : (List.replicate (r.length / d) (r.take d)).flatten = seg (rw [] (r.take d)) 0 (r.length / d * d) := by
    have := letters_seg (h := []) (r := r.take d) (n := r.length / d * d) (k := r.length / d) (by omega) (by rw [hl]; simp)
    rw [← this, List.nil_append]
    exact (List.take_of_length_le (by rw [rep_len_mul, hl]; exact Nat.le_refl _)).symm
  constructor
  · intro e
    have el := congrArg List.length e
    rw [rep_len_mul, hl] at el
    have dv : d ∣ r.length := ⟨r.length / d, by rw [Nat.mul_comm]; exact el.symm⟩
    refine ⟨?_, dv⟩
    rw [e1, el] at e
    have e2 := e.trans (rw_ring [] r).symm
    have pg : Per (rw [] (r.take d)) 0 d := by
      have := rw_per [] (r.take d)
      rw [hl] at this
      exact this
    have pg2 : Per (rw [] (r.take d)) 0 r.length := by
      have := pg.mul (r.length / d)
      rwa [Nat.mul_comm, el] at this
    have pf : Per (rw [] r) 0 r.length := rw_per [] r
    have ef : rw [] r = rw [] (r.take d) := by
      funext i
      rw [per_mod pf i, per_mod pg2 i]
      have := seg_inj e2 (i % r.length) (Nat.mod_lt _ (by omega))
      simpa using this.symm
    rw [ef]
    exact pg
  · rintro ⟨pf, k, hk⟩
    have ek : r.length / d * d = r.length := by rw [hk, Nat.mul_comm d k, Nat.mul_div_cancel _ h0]
    have ef : rw [] (r.take d) = rw [] r := by
      rw [take_seg r h1]
      have := per_rw pf h0
      rw [seg_nil] at this
      exact this
    rw [e1, ek, ef]
    exact rw_ring [] r
/-- from the head on only the ring tells -/
theorem per_tail {h r : List Nat} {q : Nat} : Per (rw h r) h.length q ↔ Per (rw [] r) 0 q := by
  have key : ∀ i, rw h r (h.length + i) = rw [] r i := fun i => by
    rw [rw_ge (by omega), rw_ge (Nat.zero_le i), Nat.add_sub_cancel_left]
    rfl
  constructor
  · intro p i _
    have := p (h.length + i) (by omega)
    rwa [Nat.add_assoc, key, key] at this
  · intro p i hi
    obtain ⟨j, rfl⟩ : ∃ j, i = h.length + j := ⟨i - h.length, by omega⟩
    rw [Nat.add_assoc, key, key]
    exact p j (Nat.zero_le _)
/-- head and ring while the head is made shorter -/
structure LInv (f : Nat → Nat) (a b : List Nat) : Prop where
  row : rw a b = f
  pos : 0 < b.length
  least : ∀ p', 0 < p' → Per f a.length p' → b.length ≤ p'
theorem short_pos {r : List Nat} {p : Nat} (hr : 0 < r.length) (m : IsMin (rw [] r) 0 p) : p ≤ r.length := m.ring _ hr (rw_per [] r)
theorem linv_start {h r : List Nat} {p : Nat} (hr : 0 < r.length) (m : IsMin (rw [] r) 0 p) : LInv (rw h r) h (r.take p) := by
  have hp := short_pos hr m
  have hl : (r.take p).length = p := by rw [List.length_take]; omega
  have ef : rw [] (r.take p) = rw [] r := by
    rw [take_seg r hp]
    have := per_rw m.per m.pos
    rw [seg_nil] at this
    exact this
  refine ⟨?_, by rw [hl]; exact m.pos, fun p' h0 hq => by rw [hl]; exact m.ring p' h0 (per_tail.mp hq)⟩
  funext i
  by_cases hi : i < h.length
  · rw [rw_lt hi, rw_lt hi]
  · have e := congrFun ef (i - h.length)
    rw [rw_ge (Nat.zero_le _), rw_ge (Nat.zero_le _)] at e
    rw [rw_ge (by omega), rw_ge (by omega)]
    exact e
theorem linv_step {f : Nat → Nat} {a b : List Nat} {c : Nat} (v : LInv f (a ++ [c]) (b ++ [c])) : LInv f a (c :: b) := by
  have e1 := rw_head (a ++ [c]) (b ++ [c])
  have e2 := rw_ring (a ++ [c]) (b ++ [c])
  have pf := rw_per (a ++ [c]) (b ++ [c])
  rw [v.row] at e1 e2 pf
  have la : (a ++ [c]).length = a.length + 1 := by simp
  have lb : (b ++ [c]).length = b.length + 1 := by simp
  rw [la] at e1 e2 pf
  rw [lb] at e2 pf
  have fa : f a.length = c := by
    have := congrArg (fun l : List Nat => l[a.length]?) e1
    simp only [seg_get (show a.length < a.length + 1 by omega), Nat.zero_add] at this
    rw [List.getElem?_append_right (Nat.le_refl _)] at this
    simpa using this
  have fb : f (a.length + 1 + b.length) = c := by
    have := congrArg (fun l : List Nat => l[b.length]?) e2
    simp only [seg_get (show b.length < b.length + 1 by omega)] at this
    rw [List.getElem?_append_right (Nat.le_refl _)] at this
    simpa using this
  have pf2 : Per f a.length (b.length + 1) := fun i hi => by
    by_cases h : i = a.length
    · subst h
      rw [show a.length + (b.length + 1) = a.length + 1 + b.length by omega, fb, fa]
    · exact pf i (by omega)
  have s1 : seg f 0 a.length = a := by
    have := congrArg (fun l : List Nat => l.take a.length) e1
    simp only [seg_take (show a.length ≤ a.length + 1 by omega)] at this
    simpa using this
  have s2 : seg f a.length (b.length + 1) = c :: b := by
    have h1 : seg f a.length 1 ++ seg f (a.length + 1) b.length = seg f a.length (1 + b.length) := seg_app
    rw [Nat.add_comm b.length 1, ← h1]
    have h2 : seg f a.length 1 = [c] := by simp [seg, fa]
    have h3 := congrArg (fun l : List Nat => l.take b.length) e2
    simp only [seg_take (show b.length ≤ b.length + 1 by omega)] at h3
    rw [h2, h3]
    simp
  have row := per_rw pf2 (by omega)
  rw [s1, s2] at row
  refine ⟨row, by simp, fun p' h0 hq => ?_⟩
  have := v.least p' h0 (hq.mono (by simp))
  simpa using this
theorem linv_end {f : Nat → Nat} {a b : List Nat} (v : LInv f a b) (h : a = [] ∨ ∃ a' b' x y, a = a' ++ [x] ∧ b = b' ++ [y] ∧ x ≠ y) : IsMin f a.length b.length := by
  have pf := rw_per a b
  rw [v.row] at pf
  refine ⟨v.pos, pf, fun m' p' h0 hq => ?_, v.least⟩
  rcases h with rfl | ⟨a', b', x, y, rfl, rfl, ne⟩
  · exact Nat.zero_le _
  · refine Nat.le_of_not_lt fun hlt => ne ?_
    have la : (a' ++ [x]).length = a'.length + 1 := by simp
    have lb : (b' ++ [y]).length = b'.length + 1 := by simp
    have e1 := rw_head (a' ++ [x]) (b' ++ [y])
    have e2 := rw_ring (a' ++ [x]) (b' ++ [y])
    have dv := per_dvd (q := p') v.pos pf v.least (hq.mono (by omega))
    rw [v.row] at e1 e2
    rw [la] at e1 e2 pf hlt
    rw [lb] at e2 pf dv
    have fa : f a'.length = x := by
      have := congrArg (fun l : List Nat => l[a'.length]?) e1
      simp only [seg_get (show a'.length < a'.length + 1 by omega), Nat.zero_add] at this
      rw [List.getElem?_append_right (Nat.le_refl _)] at this
      simpa using this
    have fb : f (a'.length + 1 + b'.length) = y := by
      have := congrArg (fun l : List Nat => l[b'.length]?) e2
      simp only [seg_get (show b'.length < b'.length + 1 by omega)] at this
      rw [List.getElem?_append_right (Nat.le_refl _)] at this
      simpa using this
    obtain ⟨k, rfl⟩ := dv
    obtain ⟨j, rfl⟩ : ∃ j, k = j + 1 := ⟨k - 1, by
      have : k ≠ 0 := fun z => by subst z; simp at h0
      omega⟩
    have e3 := hq a'.length (by omega)
    have e4 := pf.mul j (a'.length + 1 + b'.length) (by omega)
    rw [← fa, ← fb, ← e4, ← e3]
    congr 1
    rw [Nat.mul_succ]
    omega
/-- a, b is the least form of h, r -/
structure Least (h r a b : List Nat) : Prop where
  row : rw a b = rw h r
  min : IsMin (rw h r) a.length b.length
theorem Least.of {h r a b : List Nat} (v : LInv (rw h r) a b) (e : a = [] ∨ ∃ a' b' x y, a = a' ++ [x] ∧ b = b' ++ [y] ∧ x ≠ y) : Least h r a b := ⟨v.row, linv_end v e⟩
theorem Least.uniq {h r h' r' a b a' b' : List Nat} (e : rw h r = rw h' r') (x : Least h r a b) (y : Least h' r' a' b') : a = a' ∧ b = b' := by
  have y2 := y.min
  rw [← e] at y2
  obtain ⟨e1, e2⟩ := x.min.uniq y2
  have r1 := rw_head a b
  have r2 := rw_head a' b'
  have r3 := rw_ring a b
  have r4 := rw_ring a' b'
  rw [x.row] at r1 r3
  rw [y.row, ← e] at r2 r4
  exact ⟨by rw [← r1, ← r2, e1], by rw [← r3, ← r4, e1, e2]⟩
theorem Least.bound {h r a b : List Nat} (hr : 0 < r.length) (x : Least h r a b) : a.length ≤ h.length ∧ b.length ≤ r.length ∧ 0 < b.length :=
  let ⟨h1, h2⟩ := x.min.le hr (rw_per h r)
  ⟨h1, h2, x.min.pos⟩
/-- the law's own test: the first so many letters of a candidate -/
theorem cand_check {h r : List Nat} {m p n : Nat} (hr : 0 < r.length) (hp : 0 < p) (hm : m ≤ h.length) (hp2 : p ≤ r.length) (hn : h.length + r.length + p ≤ n) :
    seg (rw (seg (rw h r) 0 m) (seg (rw h r) m p)) 0 n = seg (rw h r) 0 n ↔ Per (rw h r) m p := by
  constructor
  · intro e
    have pg := rw_per (seg (rw h r) 0 m) (seg (rw h r) m p)
    rw [seg_len, seg_len] at pg
    have ef := fine_wilf (rw_per h r) (pg.mono hm) hr hp fun i hi => by
      have := seg_inj e i (by omega)
      simpa using this.symm
    rw [ef]
    exact pg
  · intro pf
    rw [per_rw pf hp]
theorem ok_S {l : List Nat} (h : Wd l) : PyData.strOk (S l) = true := by
  unfold PyData.strOk S
  rw [← Array.all_toList]
  exact List.all_eq_true.mpr fun c hc => decide_eq_true (by rcases h c hc with e | e | e <;> omega)
theorem S_beq (a b : List Nat) : (S a == S b) = decide (a = b) := SX.S_beq_eq
/-- == of two tuples of two texts -/
theorem r_eqSS {K : PySem.W.Frag} {H : Hp} {Q : VK} {x y : Addr} {a b c d : List Nat} (h1 : SqT K H x [.str (S a), .str (S b)]) (h2 : SqT K H y [.str (S c), .str (S d)]) (oa : Wd a) (ob : Wd b) (oc : Wd c) (od : Wd d)
    (q : Q (.bl (decide (a = c ∧ b = d))) H) : rEqD K (.ref x) (.ref y) H Q := by
  refine ⟨_, _, .tup h1 (.cons (.str _) (.cons (.str _) .nil)), .tup h2 (.cons (.str _) (.cons (.str _) .nil)), ?_, ?_, ?_⟩
  · unfold SeqAt.shaped
    simp only [PyData.canLay0, PyData.canLayAll0, ok_S oa, ok_S ob, PyData.depth, PyData.depthAll]
    rfl
  · unfold SeqAt.shaped
    simp only [PyData.canLay0, PyData.canLayAll0, ok_S oc, ok_S od, PyData.depth, PyData.depthAll]
    rfl
  · have e : PyData.eqv (.tuple [.str (S a), .str (S b)]) (.tuple [.str (S c), .str (S d)]) = decide (a = c ∧ b = d) := by
      simp only [PyData.eqv, PyData.eqvAll, Bool.and_true, S_beq, Bool.decide_and]
    rw [e]
    exact q
theorem Least.wd {h r a b : List Nat} (hr : 0 < r.length) (wh : Wd h) (wr : Wd r) (x : Least h r a b) : Wd a ∧ Wd b := by
  have w : ∀ i, rw h r i = 110 ∨ rw h r i = 102 ∨ rw h r i = 115 := fun i => by
    by_cases hi : i < h.length
    · rw [rw_lt hi, List.getD_eq_getElem?_getD, List.getElem?_eq_getElem hi]
      exact wh _ (List.getElem_mem hi)
    · have hm : (i - h.length) % r.length < r.length := Nat.mod_lt _ hr
      rw [rw_ge (by omega), List.getD_eq_getElem?_getD, List.getElem?_eq_getElem hm]
      exact wr _ (List.getElem_mem hm)
  have ws : ∀ a n, Wd (seg (rw h r) a n) := fun a n c hc => by
    unfold seg at hc
    obtain ⟨j, _, e⟩ := List.mem_map.mp hc
    rw [← e]
    exact w _
  have e1 := rw_head a b
  have e2 := rw_ring a b
  rw [x.row] at e1 e2
  exact ⟨e1 ▸ ws 0 a.length, e2 ▸ ws a.length b.length⟩
theorem atI_neg (l : List Nat) (c : Nat) : atI (l ++ [c]) (-1) = some c := atI_last _ _
theorem cut_last (l : List Nat) (c : Nat) : cutS (S (l ++ [c])) none (some (-1)) = S l := by
  rw [cut_S, HT.sIx_none]
  have e : HT.sIx (l ++ [c]).length (l ++ [c]).length (some (-1)) = l.length := by
    show (if (-1 : Int) < 0 then ((-1 : Int) + ((l ++ [c]).length : Int)).toNat else min (-1 : Int).toNat (l ++ [c]).length) = l.length
    rw [if_pos (by decide), List.length_append]
    simp
    omega
  rw [e]
  simp
theorem snoc_of {l : List Nat} (h : 0 < l.length) : ∃ a c, l = a ++ [c] := ⟨l.dropLast, l.getLast (by intro z; subst z; simp at h), (List.dropLast_concat_getLast _).symm⟩
theorem r_ixS {H : Hp} {Q : VK} {l : List Nat} {i : Int} {c : Nat} (hl : l.length ≤ 1000000) (h : atI l i = some c) (q : Q (.str (S [c])) H) : rIxS (.str (S l)) (.int i) H Q := ⟨_, i, c, rfl, rfl, by rw [S_len]; exact le_line hl, by rw [S_codes]; exact h, q⟩
/-! ### the same row told otherwise -/
theorem rw_longer {h r : List Nat} (r0 : 0 < r.length) : rw (h ++ r) r = rw h r := by
  have pf := rw_per h r
  have := per_rw (pf.mono (show h.length ≤ h.length + r.length by omega)) r0
  have e1 : seg (rw h r) 0 (h.length + r.length) = h ++ r := by
    rw [← seg_app, rw_head, Nat.zero_add, rw_ring]
  have e2 : seg (rw h r) (h.length + r.length) r.length = r := by
    conv => rhs; rw [← rw_ring h r]
    exact seg_ext fun i _ => by
      have := pf (h.length + i) (by omega)
      rw [← this]
      congr 1
      omega
  rw [e1, e2] at this
  exact this
theorem seg_rep {f : Nat → Nat} {m p : Nat} (pf : Per f m p) : ∀ k, seg f m (k * p) = (List.replicate k (seg f m p)).flatten
  | 0 => by simp [seg]
  | k + 1 => by
    rw [List.replicate_succ', List.flatten_append, ← seg_rep pf k, List.flatten_cons, List.flatten_nil, List.append_nil, Nat.succ_mul, ← seg_app]
    congr 1
    exact seg_ext fun i _ => by
      have := pf.mul k (m + i) (by omega)
      rw [← this]
      congr 1
      rw [Nat.mul_comm p k]
      omega
theorem rw_often {h r : List Nat} {k : Nat} (r0 : 0 < r.length) (hk : 0 < k) : rw h (List.replicate k r).flatten = rw h r := by
  have pf := rw_per h r
  have := per_rw (pf.mul k) (Nat.mul_pos r0 hk)
  rw [rw_head, Nat.mul_comm, seg_rep pf, rw_ring] at this
  exact this
theorem rw_turn {h r : List Nat} {c : Nat} : rw (h ++ [c]) (r ++ [c]) = rw h (c :: r) := by
  have pf := rw_per h (c :: r)
  have e0 := rw_ring h (c :: r)
  rw [List.length_cons] at pf e0
  have fa : rw h (c :: r) h.length = c := by
    rw [rw_ge (Nat.le_refl _), Nat.sub_self, Nat.zero_mod]
    rfl
  have := per_rw (pf.mono (show h.length ≤ h.length + 1 by omega)) (show 0 < r.length + 1 by omega)
  have s1 : seg (rw h (c :: r)) h.length 1 = [c] := by simp [seg, fa]
  have e1 : seg (rw h (c :: r)) 0 (h.length + 1) = h ++ [c] := by
    rw [← seg_app, rw_head, Nat.zero_add, s1]
  have e2 : seg (rw h (c :: r)) (h.length + 1) (r.length + 1) = r ++ [c] := by
    rw [← seg_app]
    congr 1
    · have h1 : seg (rw h (c :: r)) h.length 1 ++ seg (rw h (c :: r)) (h.length + 1) r.length = seg (rw h (c :: r)) h.length (1 + r.length) := seg_app
      rw [Nat.add_comm 1 r.length, e0, s1] at h1
      simpa using h1
    · have := pf h.length (Nat.le_refl _)
      rw [fa] at this
      simp [seg]
      rw [show h.length + 1 + r.length = h.length + (r.length + 1) by omega]
      exact this
  rw [e1, e2] at this
  exact this
theorem cut_mid {l : List Nat} {a b : Nat} (h : a ≤ b) (h2 : b ≤ l.length) : cutS (S l) (some (a : Int)) (some (b : Int)) = S ((l.drop a).take (b - a)) := by
  rw [cut_S, sIx_le h2, sIx_le (show a ≤ l.length by omega)]
/-- rows agree if so many letters do -/
theorem rows_check {h r h' r' : List Nat} {n : Nat} (r0 : 0 < r.length) (r0' : 0 < r'.length) (hn : h.length + r.length + r'.length ≤ n) (hn2 : h'.length + r.length + r'.length ≤ n) :
    seg (rw h r) 0 n = seg (rw h' r') 0 n ↔ rw h r = rw h' r' := by
  constructor
  · intro e
    refine fine_wilf ((rw_per h r).mono (Nat.le_max_left h.length h'.length)) ((rw_per h' r').mono (Nat.le_max_right _ _)) r0 r0' fun i hi => ?_
    have := seg_inj e i (by omega)
    simpa using this
  · intro e
    rw [e]
theorem cut_dl (l : List Nat) : cutS (S l) none (some (-1)) = S l.dropLast := by
  by_cases h : 0 < l.length
  · obtain ⟨a, c, rfl⟩ := snoc_of h
    rw [cut_last]
    simp
  · have : l = [] := List.eq_nil_of_length_eq_zero (by omega)
    subst this
    rw [cut_S]
    rfl
theorem r_revS {te : TE} {σ : L2.St} {H : Hp} {Q : VK} (h : te σ H fun x H1 => rRev x H1 Q) : tRevS te σ H Q := h
theorem r_revT {l : List Nat} {H : Hp} {Q : VK} (hl : l.length ≤ 1000000) (q : Q (.str (S l.reverse)) H) : rRev (.str (S l)) H Q := ⟨_, rfl, by rw [S_len]; exact le_line hl, by rw [S_codes]; exact q⟩
theorem r_catL {H : Hp} {Q : VK} {l b : Addr} {xs zs : List V} (h1 : H l = some (.lst xs)) (h2 : H b = some (.lst zs)) (hz : xs.length + zs.length ≤ 1000000) (q : ∀ p, H p = none → Q (.ref p) (upd H p (.lst (xs ++ zs)))) : rCat (.ref l) (.ref b) H Q := ⟨l, b, xs, zs, rfl, rfl, h1, h2, le_line hz, q⟩
theorem r_notB {a b : Bool} {H : Hp} {Q : VK} (q : Q (.bl (!decide (a = b))) H) : rNotB (.bl a) (.bl b) H Q := ⟨a, b, rfl, rfl, q⟩
theorem r_isB {a b : Bool} {H : Hp} {Q : VK} (q : Q (.bl (decide (a = b))) H) : rIsB (.bl a) (.bl b) H Q := ⟨a, b, rfl, rfl, q⟩
theorem Wd.dl {a : List Nat} (h : Wd a) : Wd a.dropLast := fun c hc => h c (List.dropLast_subset _ hc)
theorem Wd.rev {a : List Nat} (h : Wd a) : Wd a.reverse := fun c hc => h c (List.mem_reverse.mp hc)
section
variable {K : PySem.W.Frag}
/-- [f(x) for x in t], f of a bool -/
theorem lcT_bl {xs : List V} {t : Addr} {g : TG} {te : TE} {vs : List Nat} {σ : L2.St} {H1 : Hp} {D : Addr} {Qd : Hp → Prop} (bs : List Bool) (hb : bs.length = xs.length) (hD : H1 D = none) (hT : SqT K H1 t xs) (hl : xs.length ≤ 1000000)
    (hs : ∀ (i : Nat) (x : V) (b : Bool) (H : Hp), xs[i]? = some x → bs[i]? = some b → Same H1 H → ∀ R : V → Hp → Prop, (∀ H', Same H H' → R (.bl b) H') → g x (wipe σ vs) H fun σ2 H2 => wipe σ2 vs = wipe σ vs ∧ te σ2 H2 R)
    (hd : ∀ H, Same H1 H → H D = some (.lst (bs.map V.bl)) → Qd H) :
    ∃ W : Nat → Nat → Hp → Prop, (∃ m, W 0 m (upd H1 D (.lst []))) ∧ ∀ i m H, W i m H →
      ((Itt K t).stop i H ∧ Qd H) ∨ ((Itt K t).go i H ∧ ∃ Nx : Hp → Prop, (∀ H', Nx H' → ∃ m', m' < m ∧ W (i + 1) m' H') ∧ ∀ x H', (Itt K t).yld i H x H' → g x (wipe σ vs) H' fun σ2 H2 => wipe σ2 vs = wipe σ vs ∧ tYes σ2 H2 fun b H3 =>
        if b = true then te σ2 H3 fun y H4 => ∃ acc, H4 D = some (.lst acc) ∧ acc.length < sizeLine ∧ Nx (upd H4 D (.lst (acc ++ [y]))) else Nx H3) := by
  refine lc_acc (n := xs.length) (fun i H' => Same H1 H') (fun i v => ∃ b, bs[i]? = some b ∧ v = .bl b) hl (same_new hD) (fun i H' acc acc' e _ => Same.mut e hD) (fun i H' hi e => ?_) (fun H' e => ?_) ?_ ?_
  · exact ⟨xs, xs[i], Same.sqt e hT, List.getElem?_eq_getElem hi⟩
  · exact ⟨xs, Same.sqt e hT, Nat.le_refl _⟩
  · rintro i x H H' acc hi e hacc ⟨rfl, f⟩ R hR
    have eb : bs[i]? = some bs[i] := List.getElem?_eq_getElem (by omega)
    exact hs i x _ _ (f _ (Same.sqt e hT)) eb e R fun H4 e4 => hR _ _ (e4 _ _ hacc) ⟨_, eb, rfl⟩ (e.trans e4)
  · intro H acc hl2 hv hacc e
    have : acc = bs.map V.bl := by
      apply List.ext_getElem?
      intro i
      by_cases hi : i < xs.length
      · obtain ⟨b, eb, ev⟩ := hv i acc[i] (List.getElem?_eq_getElem (by omega))
        rw [List.getElem?_eq_getElem (by omega), ev, List.getElem?_map, eb]
        rfl
      · rw [List.getElem?_eq_none (by omega), List.getElem?_eq_none (by simp; omega)]
    rw [this] at hacc
    exact hd _ e hacc
/-- [.. for x in t]: each one true -/
theorem lcT_true {xs : List V} {t : Addr} {g : TG} {te : TE} {vs : List Nat} {σ : L2.St} {H1 : Hp} {D : Addr} {Qd : Hp → Prop} (hD : H1 D = none) (hT : SqT K H1 t xs) (hl : xs.length ≤ 1000000)
    (hs : ∀ (i : Nat) (x : V) (H : Hp), xs[i]? = some x → Same H1 H → ∀ R : V → Hp → Prop, (∀ H', Same H H' → R (.bl true) H') → g x (wipe σ vs) H fun σ2 H2 => wipe σ2 vs = wipe σ vs ∧ te σ2 H2 R)
    (hd : ∀ H, Same H1 H → H D = some (.lst (List.replicate xs.length (.bl true))) → Qd H) :
    ∃ W : Nat → Nat → Hp → Prop, (∃ m, W 0 m (upd H1 D (.lst []))) ∧ ∀ i m H, W i m H →
      ((Itt K t).stop i H ∧ Qd H) ∨ ((Itt K t).go i H ∧ ∃ Nx : Hp → Prop, (∀ H', Nx H' → ∃ m', m' < m ∧ W (i + 1) m' H') ∧ ∀ x H', (Itt K t).yld i H x H' → g x (wipe σ vs) H' fun σ2 H2 => wipe σ2 vs = wipe σ vs ∧ tYes σ2 H2 fun b H3 =>
        if b = true then te σ2 H3 fun y H4 => ∃ acc, H4 D = some (.lst acc) ∧ acc.length < sizeLine ∧ Nx (upd H4 D (.lst (acc ++ [y]))) else Nx H3) := by
  refine lc_acc (n := xs.length) (fun i H' => Same H1 H') (fun _ v => v = .bl true) hl (same_new hD) (fun i H' acc acc' e _ => Same.mut e hD) (fun i H' hi e => ?_) (fun H' e => ?_) ?_ ?_
  · exact ⟨xs, xs[i], Same.sqt e hT, List.getElem?_eq_getElem hi⟩
  · exact ⟨xs, Same.sqt e hT, Nat.le_refl _⟩
  · rintro i x H H' acc hi e hacc ⟨rfl, f⟩ R hR
    exact hs i x _ (f _ (Same.sqt e hT)) e R fun H4 e4 => hR _ _ (e4 _ _ hacc) rfl (e.trans e4)
  · intro H acc hl2 hv hacc e
    rw [all_true hl2 hv] at hacc
    exact hd _ e hacc
end
end Tf

set_option Elab.async false
set_option linter.all false
set_option maxRecDepth 100000
set_option maxHeartbeats 4000000
set_option pp.maxSteps 400
set_option exponentiation.threshold 4000
local macro_rules | `(tactic| walk_at "rr") => `(tactic| with_reducible first
  | refine Tf.r_seq ?_ | refine Tf.r_asg ?_ | refine Tf.r_name ?_ | refine Tf.r_ret ?_ | refine Tf.r_drop ?_ | refine Tf.r_next ?_ | refine Tf.r_ifS ?_ | refine Tf.r_op ?_ | refine Tf.r_un ?_
  | refine Tf.r_c ?_ | refine Tf.r_I0 ?_ | refine Tf.r_U ?_ | refine Tf.r_cb ?_ | refine Tf.r_cons ?_ | refine Tf.r_nil ?_ | refine Tf.r_call ?_ | refine Tf.r_callN ?_ | refine Tf.r_test ?_ | refine Tf.r_B ?_
  | refine Tf.r_k ?_ | refine Tf.r_and ?_ | refine Tf.r_or ?_ | refine Tf.r_not ?_ | refine Tf.r_andV ?_ | refine Tf.r_orV ?_ | refine Tf.r_notV ?_ | refine Tf.r_if ?_ | refine Tf.r_chain ?_ | refine Tf.r_tup ?_
  | refine Tf.r_lst ?_ | refine Tf.r_par ?_ | refine Tf.r_sl ?_ | refine Tf.r_nopart ?_ | refine Tf.r_part ?_ | refine Tf.r_i ?_ | refine Tf.r_int ?_ | refine Tf.r_intb ?_ | refine Tf.r_isT ?_ | refine Tf.r_noT ?_ | refine Tf.r_isN ?_ | refine Tf.r_notN ?_ | refine Tf.r_inC ?_ | refine Tf.r_abs ?_ | refine Tf.r_max2 ?_ | refine Tf.r_min2 ?_
  | refine Tf.r_for ?_ | refine Tf.r_iStr ?_ | refine Tf.r_iList ?_ | refine Tf.r_iTup ?_ | refine Tf.r_tM1 ?_ | refine Tf.r_lc ?_ | refine Tf.r_yes ?_ | refine Tf.r_revS ?_ | refine Tf.r_notB ?_ | refine Tf.r_isB ?_ | refine Tf.r_iRng1 ?_ | refine Tf.r_iZip ?_ | refine Tf.r_iRng2 ?_ | refine Tf.r_then ?_ | refine Tf.r_gSub ?_ | refine Tf.r_lstRg ?_ | refine Tf.r_rg1 ?_ | refine Tf.r_gCons ?_ | refine Tf.r_gNil ?_ | refine Tf.r_nt ?_ | refine Tf.r_nf ?_ | refine Tf.r_true ?_ | refine Tf.r_false ?_)
local macro_rules | `(tactic| walk_at "rv") => `(tactic| ((with_reducible refine Tf.r_var (v := ?v) ?h ?_); (case' h => exact rfl)))
local macro_rules | `(tactic| walk_at "re") => `(tactic| first
  | ((with_reducible refine Tf.r_eq ?h ?_); (case' h => exact rfl)) | ((with_reducible refine Tf.r_ne ?h ?_); (case' h => exact rfl)))
local macro_rules | `(tactic| walk_at "ri") => `(tactic| first
  | ((with_reducible refine Tf.r_isiS (b := false) ?h ?_); (case' h => (show L2.kitB _ _ = some _; decide +kernel)))
  | ((with_reducible refine Tf.r_isiS (b := true) ?h ?_); (case' h => (show L2.kitB _ _ = some _; decide +kernel))))
local macro_rules | `(tactic| walk_at "r") => `(tactic| repeat (first | walk_at "rr" | walk_at "rv" | walk_at "re" | walk_at "ri"))
local macro_rules | `(tactic| walk_at "rs") => `(tactic| repeat (with_reducible first | refine Tf.r_seq ?_ | refine Tf.r_asg ?_ | refine Tf.r_name ?_ | refine Tf.r_next ?_))
local macro_rules | `(tactic| walk_at "rq") => `(tactic| with_reducible refine Tf.r_seq ?_)

namespace K04
open PySem PySem.Spec PyProof.Rows L2 Tf
def top (i : Nat) : Stmt := PySem.Challenge.pw_twofarplayers_k04_whole_least_losses_and.main.body.getD i (.Pass ⟨0, 0, 0, 0⟩)
abbrev s_is_made_of_fates : Stmt := top 8
theorem sc_is_made_of_fates : FnScope ["value", "sign"] ["value"] (defScope s_is_made_of_fates) := ⟨rfl, rfl, rfl, by decide +kernel, rfl, by decide +kernel, by decide +kernel⟩
abbrev s_is_long_loss : Stmt := top 9
theorem sc_is_long_loss : FnScope ["value", "word"] ["value"] (defScope s_is_long_loss) := ⟨rfl, rfl, rfl, by decide +kernel, rfl, by decide +kernel, by decide +kernel⟩
abbrev s_is_loss : Stmt := top 10
theorem sc_is_loss : FnScope ["value", "word"] ["value"] (defScope s_is_loss) := ⟨rfl, rfl, rfl, by decide +kernel, rfl, by decide +kernel, by decide +kernel⟩
abbrev s_is_whole : Stmt := top 7
theorem sc_is_whole : FnScope ["value"] ["value"] (defScope s_is_whole) := ⟨rfl, rfl, rfl, by decide +kernel, rfl, by decide +kernel, by decide +kernel⟩
abbrev s_need_loss : Stmt := top 11
theorem sc_need_loss : FnScope ["value"] ["value"] (defScope s_need_loss) := ⟨rfl, rfl, rfl, by decide +kernel, rfl, by decide +kernel, by decide +kernel⟩
abbrev s_need_number : Stmt := top 12
theorem sc_need_number : FnScope ["value", "most"] ["value", "most"] (defScope s_need_number) := ⟨rfl, rfl, rfl, by decide +kernel, rfl, by decide +kernel, by decide +kernel⟩
abbrev s_shortest_ring : Stmt := top 14
theorem sc_shortest_ring : FnScope ["ring", "size"] ["ring"] (defScope s_shortest_ring) := ⟨rfl, rfl, rfl, by decide +kernel, rfl, by decide +kernel, by decide +kernel⟩
abbrev s_least_form : Stmt := top 15
theorem sc_least_form : FnScope ["head", "ring"] ["head", "ring"] (defScope s_least_form) := ⟨rfl, rfl, rfl, by decide +kernel, rfl, by decide +kernel, by decide +kernel⟩
abbrev s_first_letters : Stmt := top 16
theorem sc_first_letters : FnScope ["loss", "many", "head", "ring"] ["loss", "many"] (defScope s_first_letters) := ⟨rfl, rfl, rfl, by decide +kernel, rfl, by decide +kernel, by decide +kernel⟩
abbrev s_least : Stmt := top 17
theorem sc_least : FnScope ["loss", "head", "ring"] ["loss"] (defScope s_least) := ⟨rfl, rfl, rfl, by decide +kernel, rfl, by decide +kernel, by decide +kernel⟩
abbrev s_are_alike : Stmt := top 18
theorem sc_are_alike : FnScope ["one", "other"] ["one", "other"] (defScope s_are_alike) := ⟨rfl, rfl, rfl, by decide +kernel, rfl, by decide +kernel, by decide +kernel⟩
abbrev s_letters_of : Stmt := top 19
theorem sc_letters_of : FnScope ["loss", "many"] ["loss", "many"] (defScope s_letters_of) := ⟨rfl, rfl, rfl, by decide +kernel, rfl, by decide +kernel, by decide +kernel⟩
abbrev s_Lpot : Stmt := top 21
theorem sc_Lpot : FnScope ["script", "at", "cell", "own", "small"] ["script", "at"] (defScope s_Lpot) := ⟨rfl, rfl, rfl, by decide +kernel, rfl, by decide +kernel, by decide +kernel⟩
abbrev s_Ltake : Stmt := top 22
theorem sc_Ltake : FnScope ["pot", "upto", "prime", "blend", "digit"] ["pot", "upto"] (defScope s_Ltake) := ⟨rfl, rfl, rfl, by decide +kernel, rfl, by decide +kernel, by decide +kernel⟩
abbrev s_Lof : Stmt := top 23
theorem sc_Lof : FnScope ["pot", "some"] ["pot", "some"] (defScope s_Lof) := ⟨rfl, rfl, rfl, by decide +kernel, rfl, by decide +kernel, by decide +kernel⟩
abbrev s_Lcells : Stmt := top 24
theorem sc_Lcells : FnScope ["script", "most"] ["script", "most"] (defScope s_Lcells) := ⟨rfl, rfl, rfl, by decide +kernel, rfl, by decide +kernel, by decide +kernel⟩
abbrev s_Lsame : Stmt := top 30
theorem sc_Lsame : FnScope ["told", "due", "is_fit", "one", "other"] ["told", "due"] (defScope s_Lsame) := ⟨rfl, rfl, rfl, by decide +kernel, rfl, by decide +kernel, by decide +kernel⟩
abbrev s_Llaw_letters : Stmt := top 25
theorem sc_Llaw_letters : FnScope ["loss", "many", "head", "circle"] ["loss", "many"] (defScope s_Llaw_letters) := ⟨rfl, rfl, rfl, by decide +kernel, rfl, by decide +kernel, by decide +kernel⟩
abbrev s_Llaw_least : Stmt := top 26
theorem sc_Llaw_least : FnScope ["loss", "many", "row", "head", "circle"] ["loss"] (defScope s_Llaw_least) := ⟨rfl, rfl, rfl, by decide +kernel, rfl, by decide +kernel, by decide +kernel⟩
abbrev s_Llaw_word_drawn : Stmt := top 27
theorem sc_Llaw_word_drawn : FnScope ["pot", "most", "lap"] ["pot", "most"] (defScope s_Llaw_word_drawn) := ⟨rfl, rfl, rfl, by decide +kernel, rfl, by decide +kernel, by decide +kernel⟩
abbrev s_Lrow_letters : Stmt := top 28
theorem sc_Lrow_letters : FnScope ["loss", "many", "head", "again"] ["loss", "many"] (defScope s_Lrow_letters) := ⟨rfl, rfl, rfl, by decide +kernel, rfl, by decide +kernel, by decide +kernel⟩
abbrev s_Lrow_same : Stmt := top 29
theorem sc_Lrow_same : FnScope ["one", "other", "many"] ["one", "other"] (defScope s_Lrow_same) := ⟨rfl, rfl, rfl, by decide +kernel, rfl, by decide +kernel, by decide +kernel⟩
abbrev s_Ltold_otherwise : Stmt := top 31
theorem sc_Ltold_otherwise : FnScope ["pot", "loss", "lap", "head", "circle", "way"] ["pot", "loss"] (defScope s_Ltold_otherwise) := ⟨rfl, rfl, rfl, by decide +kernel, rfl, by decide +kernel, by decide +kernel⟩
abbrev s_Lnear : Stmt := top 32
theorem sc_Lnear : FnScope ["pot", "loss", "fate", "some", "head", "circle"] ["pot", "loss"] (defScope s_Lnear) := ⟨rfl, rfl, rfl, by decide +kernel, rfl, by decide +kernel, by decide +kernel⟩
abbrev s_Lright : Stmt := top 33
theorem sc_Lright : FnScope ["pot", "lap", "loss", "due", "is_due", "many", "other", "near"] ["pot"] (defScope s_Lright) := ⟨rfl, rfl, rfl, by decide +kernel, rfl, by decide +kernel, by decide +kernel⟩
abbrev s_law : Stmt := top 34
theorem sc_law : FnScope ["script", "place"] ["script"] (defScope s_law) := ⟨rfl, rfl, rfl, by decide +kernel, rfl, by decide +kernel, by decide +kernel⟩
structure Txt (K : PySem.W.Frag) (mg : Str → Option Value) : Prop where
  d_is_made_of_fates : ∃ fd, FnP K "is_made_of_fates" s_is_made_of_fates (He.ga K "is_made_of_fates") fd
  g_is_made_of_fates : mg "is_made_of_fates" = some (.ref (He.ga K "is_made_of_fates"))
  d_is_long_loss : ∃ fd, FnP K "is_long_loss" s_is_long_loss (He.ga K "is_long_loss") fd
  g_is_long_loss : mg "is_long_loss" = some (.ref (He.ga K "is_long_loss"))
  d_is_loss : ∃ fd, FnP K "is_loss" s_is_loss (He.ga K "is_loss") fd
  g_is_loss : mg "is_loss" = some (.ref (He.ga K "is_loss"))
  d_is_whole : ∃ fd, FnP K "is_whole" s_is_whole (He.ga K "is_whole") fd
  g_is_whole : mg "is_whole" = some (.ref (He.ga K "is_whole"))
  d_need_loss : ∃ fd, FnP K "need_loss" s_need_loss (He.ga K "need_loss") fd
  g_need_loss : mg "need_loss" = some (.ref (He.ga K "need_loss"))
  d_need_number : ∃ fd, FnP K "need_number" s_need_number (He.ga K "need_number") fd
  g_need_number : mg "need_number" = some (.ref (He.ga K "need_number"))
  d_shortest_ring : ∃ fd, FnP K "shortest_ring" s_shortest_ring (He.ga K "shortest_ring") fd
  g_shortest_ring : mg "shortest_ring" = some (.ref (He.ga K "shortest_ring"))
  d_least_form : ∃ fd, FnP K "least_form" s_least_form (He.ga K "least_form") fd
  g_least_form : mg "least_form" = some (.ref (He.ga K "least_form"))
  d_first_letters : ∃ fd, FnP K "first_letters" s_first_letters (He.ga K "first_letters") fd
  g_first_letters : mg "first_letters" = some (.ref (He.ga K "first_letters"))
  d_least : ∃ fd, FnP K "least" s_least (He.ga K "least") fd
  g_least : mg "least" = some (.ref (He.ga K "least"))
  d_are_alike : ∃ fd, FnP K "are_alike" s_are_alike (He.ga K "are_alike") fd
  g_are_alike : mg "are_alike" = some (.ref (He.ga K "are_alike"))
  d_letters_of : ∃ fd, FnP K "letters_of" s_letters_of (He.ga K "letters_of") fd
  g_letters_of : mg "letters_of" = some (.ref (He.ga K "letters_of"))
  d_Lpot : ∃ fd, FnP K "_law_pot" s_Lpot (He.ga K "_law_pot") fd
  g__law_pot : mg "_law_pot" = some (.ref (He.ga K "_law_pot"))
  d_Ltake : ∃ fd, FnP K "_law_take" s_Ltake (He.ga K "_law_take") fd
  g__law_take : mg "_law_take" = some (.ref (He.ga K "_law_take"))
  d_Lof : ∃ fd, FnP K "_law_of" s_Lof (He.ga K "_law_of") fd
  g__law_of : mg "_law_of" = some (.ref (He.ga K "_law_of"))
  d_Lcells : ∃ fd, FnP K "_law_cells" s_Lcells (He.ga K "_law_cells") fd
  g__law_cells : mg "_law_cells" = some (.ref (He.ga K "_law_cells"))
  d_Lsame : ∃ fd, FnP K "_law_same" s_Lsame (He.ga K "_law_same") fd
  g__law_same : mg "_law_same" = some (.ref (He.ga K "_law_same"))
  d_Llaw_letters : ∃ fd, FnP K "_law_law_letters" s_Llaw_letters (He.ga K "_law_law_letters") fd
  g__law_law_letters : mg "_law_law_letters" = some (.ref (He.ga K "_law_law_letters"))
  d_Llaw_least : ∃ fd, FnP K "_law_law_least" s_Llaw_least (He.ga K "_law_law_least") fd
  g__law_law_least : mg "_law_law_least" = some (.ref (He.ga K "_law_law_least"))
  d_Llaw_word_drawn : ∃ fd, FnP K "_law_law_word_drawn" s_Llaw_word_drawn (He.ga K "_law_law_word_drawn") fd
  g__law_law_word_drawn : mg "_law_law_word_drawn" = some (.ref (He.ga K "_law_law_word_drawn"))
  d_Lrow_letters : ∃ fd, FnP K "_law_row_letters" s_Lrow_letters (He.ga K "_law_row_letters") fd
  g__law_row_letters : mg "_law_row_letters" = some (.ref (He.ga K "_law_row_letters"))
  d_Lrow_same : ∃ fd, FnP K "_law_row_same" s_Lrow_same (He.ga K "_law_row_same") fd
  g__law_row_same : mg "_law_row_same" = some (.ref (He.ga K "_law_row_same"))
  d_Ltold_otherwise : ∃ fd, FnP K "_law_told_otherwise" s_Ltold_otherwise (He.ga K "_law_told_otherwise") fd
  g__law_told_otherwise : mg "_law_told_otherwise" = some (.ref (He.ga K "_law_told_otherwise"))
  d_Lnear : ∃ fd, FnP K "_law_near" s_Lnear (He.ga K "_law_near") fd
  g__law_near : mg "_law_near" = some (.ref (He.ga K "_law_near"))
  d_Lright : ∃ fd, FnP K "_law_right" s_Lright (He.ga K "_law_right") fd
  g__law_right : mg "_law_right" = some (.ref (He.ga K "_law_right"))
  d_law : ∃ fd, FnP K "law" s_law (He.ga K "law") fd
  g_law : mg "law" = some (.ref (He.ga K "law"))
  c_FATES : ∃ t, mg "FATES" = some (.str "nfs" t)
  c_MOST_FATES : ∃ t, mg "MOST_FATES" = some (.int 200 t)
  z_abs : mg "abs" = none
  z_all : mg "all" = none
  z_bool : mg "bool" = none
  z_int : mg "int" = none
  z_isinstance : mg "isinstance" = none
  z_len : mg "len" = none
  z_list : mg "list" = none
  z_max : mg "max" = none
  z_min : mg "min" = none
  z_range : mg "range" = none
  z_str : mg "str" = none
  z_sum : mg "sum" = none
  z_tuple : mg "tuple" = none
  z_type : mg "type" = none
  z_zip : mg "zip" = none
section
variable {P : Program} {w : World} {K : PySem.W.Frag} {mg : Str → Option Value} {base : Heap}
def kg_are_alike_0_one_other {α : Type} (us ws : List α) : List α := (((ws.drop 0).take 1) ++ ((ws.drop 1).take 1))
theorem kb_are_alike_0_one_other {f : Addr} {fd : FuncData} (D : FnP K "are_alike" s_are_alike f fd) : KBn K fd ["one", "other"] 0 ["one", "other"] (fun us ws => kg_are_alike_0_one_other us ws) (fun vs zs => kg_are_alike_0_one_other vs zs) :=
  kbN D 0 ["one", "other"] (fun us ws => kg_are_alike_0_one_other us ws) (fun {vs zs us ws} r1 r2 => (Vals.append ((r2.drop 0).take 1) ((r2.drop 1).take 1)))
    (fun _ _ _ _ _ _ us ws h1 h2 => match us, ws, h1, h2 with | [], [_, _], _, _ => rfl)
def kg_least_0_loss {α : Type} (us ws : List α) : List α := ((ws.drop 0).take 1)
theorem kb_least_0_loss {f : Addr} {fd : FuncData} (D : FnP K "least" s_least f fd) : KBn K fd ["loss"] 0 ["loss"] (fun us ws => kg_least_0_loss us ws) (fun vs zs => kg_least_0_loss vs zs) :=
  kbN D 0 ["loss"] (fun us ws => kg_least_0_loss us ws) (fun {vs zs us ws} r1 r2 => ((r2.drop 0).take 1))
    (fun _ _ _ _ _ _ us ws h1 h2 => match us, ws, h1, h2 with | [], [_], _, _ => rfl)
def kg_letters_of_0_many_loss {α : Type} (us ws : List α) : List α := (((ws.drop 1).take 1) ++ ((ws.drop 0).take 1))
theorem kb_letters_of_0_many_loss {f : Addr} {fd : FuncData} (D : FnP K "letters_of" s_letters_of f fd) : KBn K fd ["loss", "many"] 0 ["many", "loss"] (fun us ws => kg_letters_of_0_many_loss us ws) (fun vs zs => kg_letters_of_0_many_loss vs zs) :=
  kbN D 0 ["many", "loss"] (fun us ws => kg_letters_of_0_many_loss us ws) (fun {vs zs us ws} r1 r2 => (Vals.append ((r2.drop 1).take 1) ((r2.drop 0).take 1)))
    (fun _ _ _ _ _ _ us ws h1 h2 => match us, ws, h1, h2 with | [], [_, _], _, _ => rfl)
def sp_is_made_of_fates (K : PySem.W.Frag) : Sp := fun vs H Q _ => ∃ l : List Nat, vs = [.str (S l)] ∧ Wd l ∧ l.length ≤ 1000000 ∧ ∀ H', Same H H' → Q (.bl true) H'
theorem ok_is_made_of_fates (T : Txt K mg) : Ok P w K mg base CX0 (1) "is_made_of_fates" s_is_made_of_fates ["value"] (sp_is_made_of_fates K) := by
  obtain ⟨fd, D⟩ := T.d_is_made_of_fates
  refine ⟨⟨_, fd, T.g_is_made_of_fates, D, D.bindsN (fun _ _ _ _ _ _ us hl => match us, hl with | [_], _ => rfl), ?_⟩⟩
  refine D.ok sc_is_made_of_fates (fun vs H Q E h => ?_) (fun cdv A outer s H vs Q E hr h => ?_)
  · obtain ⟨l, rfl, hw, hl, q⟩ := h
    rfl
  · obtain ⟨l, rfl, hw, hl, q⟩ := h
    refine ⟨_, PSs.nox (pss_one (ps_ret (pe_and (pe_cmpR o_isT (pe_callTy call_type1 (by rfl) T.z_type (by decide +kernel) (pa_cons (pv 0) pa_nil)) (pe_bltn (v := .ty "str") (by rfl) T.z_str (by decide +kernel) rfl) (nomark _)) (pe_one (pe_callB (cr_all rfl) (by rfl) T.z_all (by decide +kernel) (pa_cons (pe_lc (own := [("sign", 1)]) (g := gName 1) (tt := tYes) rfl sc_is_made_of_fates.nd (pi_str (pv 0)) (blkOk_by (N := ["value", "sign"]) (sc := defScope s_is_made_of_fates) (by decide +kernel)) (fun _ _ _ _ _ => (pg_name (i := 1) sc_is_made_of_fates.nd rfl (by first | exact Or.inl rfl | exact Or.inr rfl))) (fun _ _ _ _ _ => pts_nil) (fun _ _ _ _ _ => (pe_cmpR o_inC (pv 1) (pe_gstrS [110, 102, 115] (by rfl) (by rfl) T.c_FATES) (by rfl)))) pa_nil)))))), ?_⟩
    walk_at "r"
    refine r_typ (.str _) ?_
    walk_at "r"
    refine r_yesD rfl ?_
    walk_at "r"
    refine ⟨_, rfl, fun D hD => lcS_true (l := l) hD (by omega) (fun i c H' e e' R hR => ?_) fun H' e e' => ?_⟩
    · walk_at "r"
      refine ⟨rfl, ?_⟩
      walk_at "r"
      rw [decide_eq_true (by rcases hw.get e with rfl | rfl | rfl <;> decide)]
      exact hR _ (Same.refl _)
    · walk_at "r"
      exact r_allT e' (q _ e)
/-- a loss that stands at t -/
def LossAt (K : PySem.W.Frag) (H : Hp) (t : Addr) (h r : List Nat) : Prop := SqT K H t [.str (S h), .str (S r)] ∧ Wd h ∧ Wd r ∧ h.length ≤ 200 ∧ r.length ≤ 200 ∧ 0 < r.length
theorem LossAt.same {K : PySem.W.Frag} {H H' : Hp} {t : Addr} {h r : List Nat} (x : LossAt K H t h r) (e : Same H H') : LossAt K H' t h r := ⟨Same.sqt e x.1, x.2⟩
def sp_is_long_loss (K : PySem.W.Frag) : Sp := fun vs H Q _ => ∃ (t : Addr) (h r : List Nat), vs = [.ref t] ∧ LossAt K H t h r ∧ ∀ H', Same H H' → Q (.bl true) H'
theorem ok_is_long_loss (T : Txt K mg) : Ok P w K mg base CX0 (2) "is_long_loss" s_is_long_loss ["value"] (sp_is_long_loss K) := by
  obtain ⟨fd, D⟩ := T.d_is_long_loss
  refine ⟨⟨_, fd, T.g_is_long_loss, D, D.bindsN (fun _ _ _ _ _ _ us hl => match us, hl with | [_], _ => rfl), ?_⟩⟩
  refine D.ok sc_is_long_loss (fun vs H Q E h => ?_) (fun cdv A outer s H vs Q E hr h => ?_)
  · obtain ⟨t, h, r, rfl, hL, q⟩ := h
    rfl
  · obtain ⟨t, h, r, rfl, hL, q⟩ := h
    have F_is_made_of_fates := ok_is_made_of_fates (P := P) (w := w) (K := K) (mg := mg) (base := base) T
    refine ⟨_, PSs.nox (pss_cons (ps_if (PW.pt (pw_or (pt_cmpR o_noT (pe_callTy call_type1 (by rfl) T.z_type (by decide +kernel) (pa_cons (pv 0) pa_nil)) (pe_bltn (v := .ty "tuple") (by rfl) T.z_tuple (by decide +kernel) rfl) (nomark _)) (pw_or1 (pt_cmpR op_ne (pe_callB k_lnQ (by rfl) T.z_len (by decide +kernel) (pa_cons (pv 0) pa_nil)) pe_int (nomark _)))))
        (pss_one ps_never)
        pss_nil)
      (pss_one (ps_ret (pe_and (pe_callB (cr_all rfl) (by rfl) T.z_all (by decide +kernel) (pa_cons (pe_lc (own := [("word", 1)]) (g := gName 1) (tt := tYes) rfl sc_is_long_loss.nd (pi_tup (pv 0)) (blkOk_by (N := ["value", "word"]) (sc := defScope s_is_long_loss) (by decide +kernel)) (fun _ _ _ _ _ => (pg_name (i := 1) sc_is_long_loss.nd rfl (by first | exact Or.inl rfl | exact Or.inr rfl))) (fun _ _ _ _ _ => pts_nil) (fun _ _ _ _ _ => (pe_cl F_is_made_of_fates hr (by rfl) pass0 (pa_cons (pv 1) pa_nil)))) pa_nil)) (pe_one (pe_cmpR op_ne (pe_ix ix_tup (pv 0) pe_int (fun _ _ => rfl)) (pe_strS [] (by rfl)) (nomark _))))))), ?_⟩
    obtain ⟨hT, wh, wr, lh, lr, r0⟩ := hL
    walk_at "r"
    refine r_typ (.tup hT) ?_
    walk_at "r"
    refine r_nyesD rfl ?_
    walk_at "r"
    refine r_lnU hT ?_
    walk_at "r"
    refine r_nyesD rfl ?_
    walk_at "r"
    refine ⟨t, rfl, ⟨_, hT⟩, fun D hD => lcT_true hD hT (by show 2 ≤ 1000000; decide) (fun i x H' e e' R hR => ?_) fun H' e e' => ?_⟩
    · walk_at "r"
      refine ⟨rfl, ?_⟩
      walk_at "r"
      match i, e with
      | 0, e =>
        obtain rfl : V.str (S h) = x := Option.some.inj e
        exact ⟨h, rfl, wh, by omega, hR⟩
      | 1, e =>
        obtain rfl : V.str (S r) = x := Option.some.inj e
        exact ⟨r, rfl, wr, by omega, hR⟩
    · walk_at "r"
      refine r_allT e' ?_
      walk_at "r"
      refine r_ixT (Same.sqt e hT) rfl ?_
      walk_at "r"
      have en : decide (V.str (S r) = V.str (S [])) = false := decide_eq_false fun z => by
        have := S_iff.mp z
        subst this
        simp at r0
      rw [en]
      exact q _ e
def sp_is_loss (K : PySem.W.Frag) : Sp := fun vs H Q _ => ∃ (t : Addr) (h r : List Nat), vs = [.ref t] ∧ LossAt K H t h r ∧ ∀ H', Same H H' → Q (.bl true) H'
theorem ok_is_loss (T : Txt K mg) : Ok P w K mg base CX0 (3) "is_loss" s_is_loss ["value"] (sp_is_loss K) := by
  obtain ⟨fd, D⟩ := T.d_is_loss
  refine ⟨⟨_, fd, T.g_is_loss, D, D.bindsN (fun _ _ _ _ _ _ us hl => match us, hl with | [_], _ => rfl), ?_⟩⟩
  refine D.ok sc_is_loss (fun vs H Q E h => ?_) (fun cdv A outer s H vs Q E hr h => ?_)
  · obtain ⟨t, h, r, rfl, hL, q⟩ := h
    rfl
  · obtain ⟨t, h, r, rfl, hL, q⟩ := h
    have F_is_long_loss := ok_is_long_loss (P := P) (w := w) (K := K) (mg := mg) (base := base) T
    refine ⟨_, PSs.nox (pss_one (ps_ret (pe_and (pe_cl F_is_long_loss hr (by rfl) pass0 (pa_cons (pv 0) pa_nil)) (pe_one (pe_callB (cr_all rfl) (by rfl) T.z_all (by decide +kernel) (pa_cons (pe_lc (own := [("word", 1)]) (g := gName 1) (tt := tYes) rfl sc_is_loss.nd (pi_tup (pv 0)) (blkOk_by (N := ["value", "word"]) (sc := defScope s_is_loss) (by decide +kernel)) (fun _ _ _ _ _ => (pg_name (i := 1) sc_is_loss.nd rfl (by first | exact Or.inl rfl | exact Or.inr rfl))) (fun _ _ _ _ _ => pts_nil) (fun _ _ _ _ _ => (pe_cmpR op_le (pe_callB k_lnS (by rfl) T.z_len (by decide +kernel) (pa_cons (pv 1) pa_nil)) (pe_gint (by rfl) T.c_MOST_FATES) (nomark _)))) pa_nil)))))), ?_⟩
    have hL0 := hL
    obtain ⟨hT, wh, wr, lh, lr, r0⟩ := hL
    walk_at "r"
    refine ⟨t, h, r, rfl, hL0, fun H1 e1 => ?_⟩
    have hT1 := Same.sqt e1 hT
    walk_at "r"
    refine ⟨t, rfl, ⟨_, hT1⟩, fun D hD => lcT_true hD hT1 (by show 2 ≤ 1000000; decide) (fun i x H' e e' R hR => ?_) fun H' e e' => ?_⟩
    · walk_at "r"
      refine ⟨rfl, ?_⟩
      walk_at "r"
      match i, e with
      | 0, e =>
        obtain rfl : V.str (S h) = x := Option.some.inj e
        refine r_lnT (l := h) (by omega) ?_
        walk_at "r"
        rw [decide_eq_true (by omega)]
        exact hR _ (Same.refl _)
      | 1, e =>
        obtain rfl : V.str (S r) = x := Option.some.inj e
        refine r_lnT (l := r) (by omega) ?_
        walk_at "r"
        rw [decide_eq_true (by omega)]
        exact hR _ (Same.refl _)
    · walk_at "r"
      refine r_allT e' ?_
      exact q _ (e1.trans e)
def sp_is_whole (K : PySem.W.Frag) : Sp := fun vs H Q _ => ∃ i : Int, vs = [.int i] ∧ Q (.bl true) H
theorem ok_is_whole (T : Txt K mg) : Ok P w K mg base CX0 (1) "is_whole" s_is_whole ["value"] (sp_is_whole K) := by
  obtain ⟨fd, D⟩ := T.d_is_whole
  refine ⟨⟨_, fd, T.g_is_whole, D, D.bindsN (fun _ _ _ _ _ _ us hl => match us, hl with | [_], _ => rfl), ?_⟩⟩
  refine D.ok sc_is_whole (fun vs H Q E h => ?_) (fun cdv A outer s H vs Q E hr h => ?_)
  · obtain ⟨i, rfl, q⟩ := h
    rfl
  · obtain ⟨i, rfl, q⟩ := h
    refine ⟨_, PSs.nox (pss_one (ps_ret (pe_cmpR o_isT (pe_callTy call_type1 (by rfl) T.z_type (by decide +kernel) (pa_cons (pv 0) pa_nil)) (pe_bltn (v := .ty "int") (by rfl) T.z_int (by decide +kernel) rfl) (nomark _)))), ?_⟩
    walk_at "r"
    refine r_typ (.int _) ?_
    walk_at "r"
    exact q
def sp_need_loss (K : PySem.W.Frag) : Sp := fun vs H Q _ => ∃ (t : Addr) (h r : List Nat), vs = [.ref t] ∧ LossAt K H t h r ∧ ∀ H', Same H H' → Q .non H'
theorem ok_need_loss (T : Txt K mg) : Ok P w K mg base CX0 (4) "need_loss" s_need_loss ["value"] (sp_need_loss K) := by
  obtain ⟨fd, D⟩ := T.d_need_loss
  refine ⟨⟨_, fd, T.g_need_loss, D, D.bindsN (fun _ _ _ _ _ _ us hl => match us, hl with | [_], _ => rfl), ?_⟩⟩
  refine D.ok sc_need_loss (fun vs H Q E h => ?_) (fun cdv A outer s H vs Q E hr h => ?_)
  · obtain ⟨t, h, r, rfl, hL, q⟩ := h
    rfl
  · obtain ⟨t, h, r, rfl, hL, q⟩ := h
    have F_is_loss := ok_is_loss (P := P) (w := w) (K := K) (mg := mg) (base := base) T
    refine ⟨_, PSs.nox (pss_one (ps_if (pt_not (pt_val (pe_cl F_is_loss hr (by rfl) pass0 (pa_cons (pv 0) pa_nil))))
        (pss_one ps_never)
        pss_nil)), ?_⟩
    walk_at "r"
    refine ⟨t, h, r, rfl, hL, fun H1 e => ?_⟩
    walk_at "r"
    exact q _ e
def sp_need_number (K : PySem.W.Frag) : Sp := fun vs H Q _ => ∃ i m : Int, vs = [.int i, .int m] ∧ 0 ≤ i ∧ i ≤ m ∧ Q .non H
theorem ok_need_number (T : Txt K mg) : Ok P w K mg base CX0 (2) "need_number" s_need_number ["value", "most"] (sp_need_number K) := by
  obtain ⟨fd, D⟩ := T.d_need_number
  refine ⟨⟨_, fd, T.g_need_number, D, D.bindsN (fun _ _ _ _ _ _ us hl => match us, hl with | [_, _], _ => rfl), ?_⟩⟩
  refine D.ok sc_need_number (fun vs H Q E h => ?_) (fun cdv A outer s H vs Q E hr h => ?_)
  · obtain ⟨i, m, rfl, h0, h1, q⟩ := h
    rfl
  · obtain ⟨i, m, rfl, h0, h1, q⟩ := h
    have F_is_whole := ok_is_whole (P := P) (w := w) (K := K) (mg := mg) (base := base) T
    refine ⟨_, PSs.nox (pss_one (ps_if (PW.pt (pw_or (pt_not (pt_val (pe_cl F_is_whole hr (by rfl) pass0 (pa_cons (pv 0) pa_nil)))) (pw_or1 (pt_not (pt_chain op_le op_le pe_int (pv 0) (pv 1))))))
        (pss_one ps_never)
        pss_nil)), ?_⟩
    walk_at "r"
    refine ⟨i, rfl, ?_⟩
    walk_at "r"
    refine r_yesD h0 ?_
    walk_at "r"
    refine r_nyesD h1 ?_
    walk_at "r"
    exact q
def sp_shortest_ring (K : PySem.W.Frag) : Sp := fun vs H Q _ => ∃ r : List Nat, vs = [.str (S r)] ∧ 0 < r.length ∧ r.length ≤ 1000 ∧ ∀ p, IsMin (rw [] r) 0 p → Q (.str (S (r.take p))) H
theorem ok_shortest_ring (T : Txt K mg) : Ok P w K mg base CX0 (1) "shortest_ring" s_shortest_ring ["ring"] (sp_shortest_ring K) := by
  obtain ⟨fd, D⟩ := T.d_shortest_ring
  refine ⟨⟨_, fd, T.g_shortest_ring, D, D.bindsN (fun _ _ _ _ _ _ us hl => match us, hl with | [_], _ => rfl), ?_⟩⟩
  refine D.ok sc_shortest_ring (fun vs H Q E h => ?_) (fun cdv A outer s H vs Q E hr h => ?_)
  · obtain ⟨r, rfl, r0, lr, q⟩ := h
    rfl
  · obtain ⟨r, rfl, r0, lr, q⟩ := h
    refine ⟨_, PSs.nox (pss_cons (ps_for PassesOwn.never rfl (pi_range2 (by rfl) T.z_range (pa_cons pe_int (pa_cons (pe_callB k_lnS (by rfl) T.z_len (by decide +kernel) (pa_cons (pv 0) pa_nil)) pa_nil))) (pg_name (i := 1) sc_shortest_ring.nd rfl (by first | exact Or.inl rfl | exact Or.inr rfl))
        (pss_one (ps_if (pt_cmpR op_eq (pe_op op_mul_str (pe_slice sl_str (pv 0) po_none (po_some (pv 1))) (pe_op op_fdiv (pe_callB k_lnS (by rfl) T.z_len (by decide +kernel) (pa_cons (pv 0) pa_nil)) (pv 1))) (pv 0) (nomark _))
        (pss_one (ps_ret (pe_slice sl_str (pv 0) po_none (po_some (pv 1)))))
        pss_nil)))
      (pss_one (ps_ret (pv 0)))), ?_⟩
    obtain ⟨p, hp, hl⟩ := least_ex (P := fun p => 0 < p ∧ Per (rw [] r) 0 p) r.length ⟨r0, rw_per [] r⟩
    have m : IsMin (rw [] r) 0 p := ⟨hp.1, hp.2, fun _ _ _ _ => Nat.zero_le _, fun p' h1 h2 => hl p' ⟨h1, h2⟩⟩
    have hpr := short_pos r0 m
    have dv : p ∣ r.length := per_dvd m.pos m.per m.ring (rw_per [] r)
    walk_at "r"
    refine r_lnT (l := r) (by omega) ?_
    walk_at "r"
    refine ⟨_, _, rfl, ⟨by decide, by decide, by omega, by omega⟩, for_range (n := ((r.length : Int) - 1).toNat) (fun i σ H' => ∃ y, σ = [some (.str (S r)), y] ∧ H' = H ∧ i < p) ⟨_, rfl, rfl, m.pos⟩ ?_ ?_⟩
    · rintro i σ H' hi ⟨y, rfl, rfl, hip⟩
      have hd : (1 : Int) + i = ((i + 1 : Nat) : Int) := by omega
      walk_at "r"
      rw [hd]
      refine r_slS (l := r) (by omega) ?_
      rw [cut_take]
      walk_at "r"
      refine r_lnT (l := r) (by omega) ?_
      walk_at "r"
      refine r_I ⟨by show (0 : Int) < ((i + 1 : Nat) : Int); omega, by show ((i + 1 : Nat) : Int) < _; omega⟩ ?_
      rw [show (r.length : Int) / ((i + 1 : Nat) : Int) = ((r.length / (i + 1) : Nat) : Int) from rfl]
      have hq : r.length / (i + 1) ≤ 1000 := Nat.le_trans (Nat.div_le_self _ _) lr
      refine r_mulS (n := r.length / (i + 1)) ?_ (by omega) ?_
      · rw [List.length_take]
        have : min (i + 1) r.length * (r.length / (i + 1)) ≤ 1000 * 1000 := Nat.mul_le_mul (by omega) hq
        omega
      walk_at "r"
      have ck := ring_check (r := r) (d := i + 1) (by omega) (by omega)
      refine r_dec (fun h => ?_) (fun h => ?_)
      · have hc := (ck.mp (S_iff.mp h)).1
        have : p ≤ i + 1 := m.ring _ (by omega) hc
        obtain rfl : p = i + 1 := by omega
        walk_at "r"
        refine r_slS (l := r) (by omega) ?_
        rw [cut_take]
        exact q _ m
      · walk_at "r"
        refine ⟨_, rfl, rfl, ?_⟩
        by_cases e : p = i + 1
        · subst e
          exact absurd (S_iff.mpr (ck.mpr ⟨m.per, dv⟩)) h
        · omega
    · rintro σ H' ⟨y, rfl, rfl, hip⟩
      walk_at "r"
      have e : p = r.length := by omega
      have := q _ m
      rw [e, List.take_length] at this
      exact this
def sp_least_form (K : PySem.W.Frag) : Sp := fun vs H Q _ => ∃ h r : List Nat, vs = [.str (S h), .str (S r)] ∧ 0 < r.length ∧ r.length ≤ 1000 ∧ h.length ≤ 1000 ∧ ∀ a b, Least h r a b → ∀ t, H t = none → Q (.ref t) (upd H t (.tup [.str (S a), .str (S b)]))
theorem ok_least_form (T : Txt K mg) : Ok P w K mg base CX0 (2) "least_form" s_least_form ["head", "ring"] (sp_least_form K) := by
  obtain ⟨fd, D⟩ := T.d_least_form
  refine ⟨⟨_, fd, T.g_least_form, D, D.bindsN (fun _ _ _ _ _ _ us hl => match us, hl with | [_, _], _ => rfl), ?_⟩⟩
  refine D.ok sc_least_form (fun vs H Q E h => ?_) (fun cdv A outer s H vs Q E hr h => ?_)
  · obtain ⟨h, r, rfl, r0, lr, lh, q⟩ := h
    rfl
  · obtain ⟨h, r, rfl, r0, lr, lh, q⟩ := h
    have F_shortest_ring := ok_shortest_ring (P := P) (w := w) (K := K) (mg := mg) (base := base) T
    refine ⟨_, PSs.nox (pss_cons (ps_set (i := 1) sc_least_form.nd rfl (by first | exact Or.inl rfl | exact Or.inr rfl) (pe_cl F_shortest_ring hr (by rfl) pass0 (pa_cons (pv 1) pa_nil)))
      (pss_cons (ps_while PassesOwn.never (PW.pt (pw_and (pt_cmpR op_ne (pv 0) (pe_strS [] (by rfl)) (nomark _)) (pw_and1 (pt_cmpR op_eq (pe_ix ix_str (pv 0) (pe_un un_neg pe_int) (fun _ _ => rfl)) (pe_ix ix_str (pv 1) (pe_un un_neg pe_int) (fun _ _ => rfl)) (nomark _))))) (pss_cons (ps_set (i := 0) sc_least_form.nd rfl (by first | exact Or.inl rfl | exact Or.inr rfl) (pe_slice sl_str (pv 0) po_none (po_some (pe_un un_neg pe_int))))
      (pss_one (ps_set (i := 1) sc_least_form.nd rfl (by first | exact Or.inl rfl | exact Or.inr rfl) (pe_op o_addS (pe_ix ix_str (pv 1) (pe_un un_neg pe_int) (fun _ _ => rfl)) (pe_slice sl_str (pv 1) po_none (po_some (pe_un un_neg pe_int))))))))
      (pss_one (ps_ret (pe_tup (pa_cons (pv 0) (pa_cons (pv 1) pa_nil))))))), ?_⟩
    walk_at "r"
    refine ⟨r, rfl, r0, lr, fun p m => ?_⟩
    walk_at "r"
    have hpr := short_pos r0 m
    refine ⟨fun k σ H' => ∃ a b : List Nat, σ = [some (.str (S a)), some (.str (S b))] ∧ H' = H ∧ LInv (rw h r) a b ∧ a.length = k ∧ a.length ≤ 1000 ∧ b.length ≤ 1000, ⟨h.length, h, r.take p, rfl, rfl, linv_start r0 m, rfl, lh, by rw [List.length_take]; omega⟩, ?_⟩
    rintro k σ H' ⟨a, b, rfl, rfl, v, rfl, la, lb⟩
    walk_at "r"
    have fin : (a = [] ∨ ∃ a' b' x y, a = a' ++ [x] ∧ b = b' ++ [y] ∧ x ≠ y) → tRet (tTup (tCons (tVar 0) (tCons (tVar 1) tNil))) { nx := fun _ H' => Q .non H', rt := Q } [some (V.str (S a)), some (V.str (S b))] H' := fun e => by
      walk_at "r"
      exact ⟨by show 2 ≤ sizeLine; decide, q a b (Least.of v e)⟩
    refine r_ndec (fun e0 => ?_) (fun e0 => ?_)
    · have ha : 0 < a.length := Nat.pos_of_ne_zero fun z => e0 (by rw [List.eq_nil_of_length_eq_zero z])
      obtain ⟨a, x, rfl⟩ := snoc_of ha
      obtain ⟨b, y, rfl⟩ := snoc_of v.pos
      walk_at "r"
      refine r_ixS (by omega) (atI_neg a x) ?_
      walk_at "r"
      refine r_ixS (by omega) (atI_neg b y) ?_
      walk_at "r"
      refine r_dec (fun e1 => ?_) (fun e1 => ?_)
      · obtain rfl : x = y := by simpa using S_iff.mp e1
        refine ⟨fun σ' H2 => σ' = [some (.str (S a)), some (.str (S (x :: b)))] ∧ H2 = H', ?_, ?_⟩
        · rintro σ' H2 ⟨rfl, rfl⟩
          simp only [List.length_append, List.length_cons, List.length_nil] at la lb
          exact ⟨a.length, by rw [List.length_append]; simp, a, x :: b, rfl, rfl, linv_step v, rfl, by omega, by rw [List.length_cons]; omega⟩
        · walk_at "r"
          refine r_slS (by omega) ?_
          rw [cut_last]
          walk_at "r"
          refine r_ixS (by omega) (atI_neg b x) ?_
          walk_at "r"
          refine r_slS (by omega) ?_
          rw [cut_last]
          simp only [List.length_append, List.length_cons, List.length_nil] at lb
          refine r_addS (by simp; omega) ?_
          exact ⟨rfl, rfl⟩
      · exact fin (.inr ⟨a, b, x, y, rfl, rfl, fun z => e1 (by rw [z])⟩)
    · exact fin (.inl (S_iff.mp e0))
def sp_first_letters (K : PySem.W.Frag) : Sp := fun vs H Q _ => ∃ (t : Addr) (h r : List Nat) (n : Nat), vs = [.ref t, .int n] ∧ LossAt K H t h r ∧ n ≤ 1000 ∧ Q (.str (S (seg (rw h r) 0 n))) H
theorem ok_first_letters (T : Txt K mg) : Ok P w K mg base CX0 (1) "first_letters" s_first_letters ["loss", "many"] (sp_first_letters K) := by
  obtain ⟨fd, D⟩ := T.d_first_letters
  refine ⟨⟨_, fd, T.g_first_letters, D, D.bindsN (fun _ _ _ _ _ _ us hl => match us, hl with | [_, _], _ => rfl), ?_⟩⟩
  refine D.ok sc_first_letters (fun vs H Q E h => ?_) (fun cdv A outer s H vs Q E hr h => ?_)
  · obtain ⟨t, h, r, n, rfl, hL, hn, q⟩ := h
    rfl
  · obtain ⟨t, h, r, n, rfl, hL, hn, q⟩ := h
    refine ⟨_, PSs.nox (pss_cons (ps_asg (pv 0) (pg_tup rfl (pgs_cons (pg_name (i := 2) sc_first_letters.nd rfl (by first | exact Or.inl rfl | exact Or.inr rfl)) (pgs_cons (pg_name (i := 3) sc_first_letters.nd rfl (by first | exact Or.inl rfl | exact Or.inr rfl)) pgs_nil))))
      (pss_one (ps_ret (pe_slice sl_str (pe_op o_addS (pv 2) (pe_op op_mul_str (pv 3) (pv 1))) po_none (po_some (pv 1)))))), ?_⟩
    obtain ⟨hT, wh, wr, lh, lr, r0⟩ := hL
    walk_at "r"
    refine r_gTup hT rfl ?_
    walk_at "r"
    have hz : r.length * n ≤ 200 * 1000 := Nat.mul_le_mul lr hn
    refine r_mulS (n := n) (by omega) (by omega) ?_
    have hf := rep_len_mul n r
    rw [Nat.mul_comm] at hf
    refine r_addS (by omega) ?_
    walk_at "r"
    refine r_slS (by rw [List.length_append]; omega) ?_
    rw [cut_take, letters_seg r0 (by
      have : n * 1 ≤ n * r.length := Nat.mul_le_mul_left _ r0
      omega)]
    exact q
def sp_least (K : PySem.W.Frag) : Sp := fun vs H Q _ => ∃ (t : Addr) (h r : List Nat), vs = [.ref t] ∧ LossAt K H t h r ∧ ∀ a b H' u, Least h r a b → Same H H' → H' u = some (.tup [.str (S a), .str (S b)]) → Q (.ref u) H'
theorem ok_least (T : Txt K mg) : Ok P w K mg base CX0 (5) "least" s_least ["loss"] (sp_least K) := by
  obtain ⟨fd, D⟩ := T.d_least
  refine ⟨⟨_, fd, T.g_least, D, D.bindsN (fun _ _ _ _ _ _ us hl => match us, hl with | [_], _ => rfl), ?_⟩⟩
  refine D.ok sc_least (fun vs H Q E h => ?_) (fun cdv A outer s H vs Q E hr h => ?_)
  · obtain ⟨t, h, r, rfl, hL, q⟩ := h
    rfl
  · obtain ⟨t, h, r, rfl, hL, q⟩ := h
    have F_need_loss := ok_need_loss (P := P) (w := w) (K := K) (mg := mg) (base := base) T
    have F_least_form := ok_least_form (P := P) (w := w) (K := K) (mg := mg) (base := base) T
    refine ⟨_, PSs.nox (pss_cons (ps_expr (pe_cl F_need_loss hr (by rfl) pass0 (pa_cons (pv 0) pa_nil)))
      (pss_cons (ps_asg (pv 0) (pg_tup rfl (pgs_cons (pg_name (i := 1) sc_least.nd rfl (by first | exact Or.inl rfl | exact Or.inr rfl)) (pgs_cons (pg_name (i := 2) sc_least.nd rfl (by first | exact Or.inl rfl | exact Or.inr rfl)) pgs_nil))))
      (pss_one (ps_ret (pe_cl F_least_form hr (by rfl) pass0 (pa_cons (pv 1) (pa_cons (pv 2) pa_nil))))))), ?_⟩
    walk_at "r"
    refine ⟨t, h, r, rfl, hL, fun H1 e1 => ?_⟩
    obtain ⟨hT, wh, wr, lh, lr, r0⟩ := hL
    walk_at "r"
    refine r_gTup (Same.sqt e1 hT) rfl ?_
    walk_at "r"
    exact ⟨h, r, rfl, r0, by omega, by omega, fun a b x u hu => q a b _ u x (e1.trans (same_new hu)) upd_same⟩
def sp_are_alike (K : PySem.W.Frag) : Sp := fun vs H Q _ => ∃ (t u : Addr) (h r h' r' : List Nat), vs = [.ref t, .ref u] ∧ LossAt K H t h r ∧ LossAt K H u h' r' ∧ ∀ k H', (k = true ↔ rw h r = rw h' r') → Same H H' → Q (.bl k) H'
theorem ok_are_alike (T : Txt K mg) : Ok P w K mg base CX0 (6) "are_alike" s_are_alike ["one", "other"] (sp_are_alike K) := by
  obtain ⟨fd, D⟩ := T.d_are_alike
  refine ⟨⟨_, fd, T.g_are_alike, D, D.bindsN (fun _ _ _ _ _ _ us hl => match us, hl with | [_, _], _ => rfl), ?_⟩⟩
  refine D.ok sc_are_alike (fun vs H Q E h => ?_) (fun cdv A outer s H vs Q E hr h => ?_)
  · obtain ⟨t, u, h, r, h', r', rfl, hL, hM, q⟩ := h
    rfl
  · obtain ⟨t, u, h, r, h', r', rfl, hL, hM, q⟩ := h
    have F_least := ok_least (P := P) (w := w) (K := K) (mg := mg) (base := base) T
    refine ⟨_, PSs.nox (pss_one (ps_ret (pe_cmpR (op_eqD hr.units) (pe_cl F_least hr (by rfl) pass0 (pa_cons (pv 0) pa_nil)) (pe_cl F_least hr (by rfl) pass0 (pa_cons (pv 1) pa_nil)) (nomark _)))), ?_⟩
    walk_at "r"
    refine ⟨t, h, r, rfl, hL, fun a b H1 v x e1 hv => ?_⟩
    walk_at "r"
    refine ⟨u, h', r', rfl, hM.same e1, fun a' b' H2 v' x' e2 hv' => ?_⟩
    have r0 : 0 < r.length := hL.2.2.2.2.2
    have r0' : 0 < r'.length := hM.2.2.2.2.2
    obtain ⟨wa, wb⟩ := x.wd r0 hL.2.1 hL.2.2.1
    obtain ⟨wa', wb'⟩ := x'.wd r0' hM.2.1 hM.2.2.1
    refine r_eqSS (SqT.of (e2 _ _ hv)) (SqT.of hv') wa wb wa' wb' (q _ _ ?_ (e1.trans e2))
    rw [decide_eq_true_eq]
    constructor
    · rintro ⟨rfl, rfl⟩
      rw [← x.row, ← x'.row]
    · intro e
      exact Least.uniq e x x'
def sp_letters_of (K : PySem.W.Frag) : Sp := fun vs H Q _ => ∃ (t : Addr) (h r : List Nat) (n : Nat), vs = [.ref t, .int n] ∧ LossAt K H t h r ∧ n ≤ 200 ∧ ∀ H', Same H H' → Q (.str (S (seg (rw h r) 0 n))) H'
theorem ok_letters_of (T : Txt K mg) : Ok P w K mg base CX0 (5) "letters_of" s_letters_of ["loss", "many"] (sp_letters_of K) := by
  obtain ⟨fd, D⟩ := T.d_letters_of
  refine ⟨⟨_, fd, T.g_letters_of, D, D.bindsN (fun _ _ _ _ _ _ us hl => match us, hl with | [_, _], _ => rfl), ?_⟩⟩
  refine D.ok sc_letters_of (fun vs H Q E h => ?_) (fun cdv A outer s H vs Q E hr h => ?_)
  · obtain ⟨t, h, r, n, rfl, hL, hn, q⟩ := h
    rfl
  · obtain ⟨t, h, r, n, rfl, hL, hn, q⟩ := h
    have F_need_loss := ok_need_loss (P := P) (w := w) (K := K) (mg := mg) (base := base) T
    have F_need_number := ok_need_number (P := P) (w := w) (K := K) (mg := mg) (base := base) T
    have F_first_letters := ok_first_letters (P := P) (w := w) (K := K) (mg := mg) (base := base) T
    refine ⟨_, PSs.nox (pss_cons (ps_expr (pe_cl F_need_loss hr (by rfl) pass0 (pa_cons (pv 0) pa_nil)))
      (pss_cons (ps_expr (pe_cl F_need_number hr (by rfl) pass0 (pa_cons (pv 1) (pa_cons (pe_gint (by rfl) T.c_MOST_FATES) pa_nil))))
      (pss_one (ps_ret (pe_cl F_first_letters hr (by rfl) pass0 (pa_cons (pv 0) (pa_cons (pv 1) pa_nil))))))), ?_⟩
    walk_at "r"
    refine ⟨t, h, r, rfl, hL, fun H1 e1 => ?_⟩
    walk_at "r"
    refine ⟨n, _, rfl, by omega, by show (n : Int) ≤ 200; omega, ?_⟩
    walk_at "r"
    exact ⟨t, h, r, n, rfl, hL.same e1, by omega, q _ e1⟩

def sp_Lpot (K : PySem.W.Frag) : Sp := fun vs H Q _ => ∃ (a : Addr) (ns : List Int) (i : Nat), vs = [.ref a, .int i] ∧ SqL K H a (ns.map V.int) ∧ i ≤ 10 ∧ ∀ H' p, Same H H' → H p = none → PotAt H' p 0 → Q (.ref p) H'
theorem ok_Lpot (T : Txt K mg) : Ok P w K mg base CX0 (1) "_law_pot" s_Lpot ["script", "at"] (sp_Lpot K) := by
  obtain ⟨fd, D⟩ := T.d_Lpot
  refine ⟨⟨_, fd, T.g__law_pot, D, D.bindsN (fun _ _ _ _ _ _ us hl => match us, hl with | [_, _], _ => rfl), ?_⟩⟩
  refine D.ok sc_Lpot (fun vs H Q E h => ?_) (fun cdv A outer s H vs Q E hr h => ?_)
  · obtain ⟨a, ns, i, rfl, hS, hi, q⟩ := h
    rfl
  · obtain ⟨a, ns, i, rfl, hS, hi, q⟩ := h
    refine ⟨_, PSs.nox (pss_cons (ps_set (i := 2) sc_Lpot.nd rfl (by first | exact Or.inl rfl | exact Or.inr rfl) (pe_ifExp (pt_cmpR op_lt (pv 1) (pe_callB k_lnQ (by rfl) T.z_len (by decide +kernel) (pa_cons (pv 0) pa_nil)) (nomark _)) (pe_ix ix_list (pv 0) (pv 1) (fun _ _ => rfl)) (pe_op op_add (pe_op op_add (pe_op op_mod (pe_callB (cr_sum rfl) (by rfl) T.z_sum (by decide +kernel) (pa_cons (pe_slice sl_list (pv 0) po_none (po_some pe_int)) pa_nil)) pe_int) (pe_op op_mulW pe_int (pv 1))) pe_int)))
      (pss_cons (ps_set (i := 3) sc_Lpot.nd rfl (by first | exact Or.inl rfl | exact Or.inr rfl) (pe_op op_mulW (pe_op op_mod (pe_callTy k_int (by rfl) T.z_int (by decide +kernel) (pa_cons (pe_callB k_abs (by rfl) T.z_abs (by decide +kernel) (pa_cons (pv 2) pa_nil)) pa_nil)) (pe_op op_powW (pe_op op_powW pe_int pe_int) pe_int)) (pe_callTy k_int (by rfl) T.z_int (by decide +kernel) (pa_cons (pe_cmpR op_ge (pe_callB k_abs (by rfl) T.z_abs (by decide +kernel) (pa_cons (pv 2) pa_nil)) (pe_op op_powW pe_int pe_int) (nomark _)) pa_nil))))
      (pss_cons (ps_set (i := 4) sc_Lpot.nd rfl (by first | exact Or.inl rfl | exact Or.inr rfl) (pe_op op_mod (pe_callTy k_int (by rfl) T.z_int (by decide +kernel) (pa_cons (pv 2) pa_nil)) pe_int))
      (pss_one (ps_ret (pe_lst (pa_cons (pv 3) (pa_cons (pe_op op_mod (pe_callTy k_int (by rfl) T.z_int (by decide +kernel) (pa_cons (pe_op op_add (pe_op op_add (pe_op op_mulW (pv 4) pe_int) (pe_op op_mulW (pe_op op_mulW pe_int (pv 1)) (pv 1))) pe_int) pa_nil)) pe_int) (pa_cons pe_int pa_nil))))))))), ?_⟩
    refine r_seq (r_asg (r_cut (fun x H1 => ∃ z : Int, x = .int z ∧ Same H H1) ?_ fun R fin => ?_))
    · rintro x H1 ⟨z, rfl, e⟩
      walk_at "r"
      refine r_I (cpw (by decide) (by decide) (by decide) (by decide)) ?_
      walk_at "r"
      refine r_I ⟨by decide, by decide +kernel⟩ ?_
      walk_at "r"
      refine r_I (by show (0 : Int) < _; decide +kernel) ?_
      walk_at "r"
      refine r_I (cpw (by decide) (by decide) (by decide) (by decide)) ?_
      walk_at "r"
      have hM : (0 : Int) < (10 ^ (60 : Int).toNat) ^ (5 : Int).toNat := by decide +kernel
      have hM2 : ((10 : Int) ^ (60 : Int).toNat) ^ (5 : Int).toNat < 2 ^ 1000 := by decide +kernel
      have h1 := Int.emod_nonneg (if z < 0 then -z else z) (Int.ne_of_gt hM)
      have h2 := Int.emod_lt_of_pos (if z < 0 then -z else z) hM
      generalize (if z < 0 then -z else z) % ((10 : Int) ^ (60 : Int).toNat) ^ (5 : Int).toNat = own at h1 h2 ⊢
      have h3 : own < 2 ^ 1000 := Int.lt_trans h2 hM2
      generalize hb : (decide ((10 : Int) ^ (18 : Int).toNat ≤ if z < 0 then -z else z)) = b
      have ho : ∃ o : Int, own * (if b then 1 else 0) = o ∧ 0 ≤ o ∧ o.natAbs < 2 ^ 1000 ∧ CMulW own (if b then 1 else 0) := by
        have e2 : (2 : Int) ^ 1000 ≤ 2 ^ 1100 := by decide +kernel
        have e3 : (1 : Int) < 2 ^ 1000 := by decide +kernel
        cases b
        · exact ⟨0, by simp, by decide, by decide +kernel, cmw (by omega) (by omega) (by simp) (by simp)⟩
        · exact ⟨own, by simp, h1, by omega, cmw (by omega) (by omega) (by simp) (by simp)⟩
      obtain ⟨o, ho1, ho2, ho3, ho4⟩ := ho
      refine r_I ho4 ?_
      rw [ho1]
      walk_at "r"
      refine r_I (by show (0 : Int) < _; decide) ?_
      walk_at "r"
      have s1 := Int.emod_nonneg z (show (2305843009213693951 : Int) ≠ 0 by decide)
      have s2 := Int.emod_lt_of_pos z (show (0 : Int) < 2305843009213693951 by decide)
      generalize z % 2305843009213693951 = sm at s1 s2 ⊢
      refine r_I (cms (by omega) (by omega) (by omega) (by omega)) ?_
      walk_at "r"
      refine r_I (cms (by omega) (by omega) (by omega) (by omega)) ?_
      walk_at "r"
      refine r_I (cms (by omega) (by omega) (by omega) (by omega)) ?_
      walk_at "r"
      refine r_I (by show (0 : Int) < _; decide) ?_
      walk_at "r"
      refine ⟨by show 3 ≤ sizeLine; decide, fun p hp => ?_⟩
      refine q _ p (e.trans (same_new hp)) (e.free hp) ⟨o, _, 0, upd_same, ho2, ho3, Int.emod_nonneg _ (by decide), Int.lt_trans (Int.emod_lt_of_pos _ (by decide)) (by decide), by decide, by decide⟩
    · walk_at "r"
      refine r_lnL hS ?_
      walk_at "r"
      refine r_dec (fun h => ?_) (fun h => ?_)
      · walk_at "r"
        have hi' : i < ns.length := by rw [List.length_map] at h; omega
        refine r_ixL hS (v := .int ns[i]) (atI_nat (by rw [List.getElem?_map, List.getElem?_eq_getElem hi']; rfl)) ?_
        exact fin _ _ ⟨_, rfl, Same.refl _⟩
      · walk_at "r"
        refine r_slL hS fun p hp => ?_
        walk_at "r"
        obtain ⟨ms, hms⟩ : ∃ ms : List Int, cutV (ns.map V.int) none (some 1) = ms.map V.int := by
          refine ⟨(ns.drop (HT.sIx (ns.map V.int).length 0 none)).take (HT.sIx (ns.map V.int).length (ns.map V.int).length (some 1) - HT.sIx (ns.map V.int).length 0 none), ?_⟩
          unfold cutV
          rw [List.map_take, List.map_drop]
        rw [hms]
        refine r_sum (SqL.of upd_same) ?_
        walk_at "r"
        refine r_I (by show (0 : Int) < _; decide) ?_
        walk_at "r"
        refine r_I (cms (by omega) (by omega) (by omega) (by omega)) ?_
        walk_at "r"
        exact fin _ _ ⟨_, rfl, same_new hp⟩
def sp_Ltake (K : PySem.W.Frag) : Sp := fun vs H Q _ => ∃ (a : Addr) (u c : Int), vs = [.ref a, .int u] ∧ PotAt H a c ∧ c ≤ 1000000 ∧ 0 < u ∧ u < 1073741824 ∧ ∀ H' d, But a H H' → PotAt H' a (c + 1) → 0 ≤ d → d < u → Q (.int d) H'
theorem ok_Ltake (T : Txt K mg) : Ok P w K mg base CX0 (1) "_law_take" s_Ltake ["pot", "upto"] (sp_Ltake K) := by
  obtain ⟨fd, D⟩ := T.d_Ltake
  refine ⟨⟨_, fd, T.g__law_take, D, D.bindsN (fun _ _ _ _ _ _ us hl => match us, hl with | [_, _], _ => rfl), ?_⟩⟩
  refine D.ok sc_Ltake (fun vs H Q E h => ?_) (fun cdv A outer s H vs Q E hr h => ?_)
  · obtain ⟨a, u, c, rfl, hP, hc, hu, hu2, q⟩ := h
    rfl
  · obtain ⟨a, u, c, rfl, hP, hc, hu, hu2, q⟩ := h
    refine ⟨_, PSs.nox (pss_cons (ps_if (pt_cmpR op_gt (pe_ix ix_list (pv 0) pe_int (fun _ _ => rfl)) pe_int (nomark _))
        (pss_cons (ps_set (i := 4) sc_Ltake.nd rfl (by first | exact Or.inl rfl | exact Or.inr rfl) (pe_op op_mod (pe_callTy k_int (by rfl) T.z_int (by decide +kernel) (pa_cons (pe_ix ix_list (pv 0) pe_int (fun _ _ => rfl)) pa_nil)) (pv 1)))
      (pss_cons (ps_asg (pe_op op_fdivW (pe_ix ix_list (pv 0) pe_int (fun _ _ => rfl)) (pv 1)) (pg_sub (pv 0) pe_int set_list))
      (pss_one (ps_ret (pv 4)))))
        pss_nil)
      (pss_cons (ps_asg (pe_op op_add (pe_ix ix_list (pv 0) pe_int (fun _ _ => rfl)) pe_int) (pg_sub (pv 0) pe_int set_list))
      (pss_cons (ps_set (i := 2) sc_Ltake.nd rfl (by first | exact Or.inl rfl | exact Or.inr rfl) (pe_ix ix_list (pe_lst (pa_cons pe_int (pa_cons pe_int (pa_cons pe_int (pa_cons pe_int (pa_cons pe_int pa_nil)))))) (pe_op op_mod (pe_callTy k_int (by rfl) T.z_int (by decide +kernel) (pa_cons (pe_ix ix_list (pv 0) pe_int (fun _ _ => rfl)) pa_nil)) pe_int) (fun _ _ => rfl)))
      (pss_cons (ps_set (i := 3) sc_Ltake.nd rfl (by first | exact Or.inl rfl | exact Or.inr rfl) (pe_op op_mod (pe_callTy k_int (by rfl) T.z_int (by decide +kernel) (pa_cons (pe_op op_powW (pe_callTy k_int (by rfl) T.z_int (by decide +kernel) (pa_cons (pe_op op_add (pe_op op_add (pe_ix ix_list (pv 0) pe_int (fun _ _ => rfl)) (pe_op op_mulW (pe_op op_mulW pe_int (pe_ix ix_list (pv 0) pe_int (fun _ _ => rfl))) (pe_ix ix_list (pv 0) pe_int (fun _ _ => rfl)))) pe_int) pa_nil)) pe_int) pa_nil)) (pv 2)))
      (pss_cons (ps_set (i := 3) sc_Ltake.nd rfl (by first | exact Or.inl rfl | exact Or.inr rfl) (pe_op op_mod (pe_callTy k_int (by rfl) T.z_int (by decide +kernel) (pa_cons (pe_op op_mulW (pv 3) (pe_op op_add (pe_op op_mod (pe_callTy k_int (by rfl) T.z_int (by decide +kernel) (pa_cons (pv 3) pa_nil)) pe_int) (pe_op op_mulW pe_int (pe_ix ix_list (pv 0) pe_int (fun _ _ => rfl))))) pa_nil)) pe_int))
      (pss_one (ps_ret (pe_op op_mod (pe_callTy k_int (by rfl) T.z_int (by decide +kernel) (pa_cons (pe_op op_fdivW (pv 3) pe_int) pa_nil)) (pv 1))))))))), ?_⟩
    obtain ⟨own, sd, n, hA, o1, o2, s1, s2, n1, n2⟩ := hP
    refine r_seq (s_cut (fun σ' H' => σ' = [some (.ref a), some (.int u), none, none, none] ∧ H' = H) ?_ fun R fin => ?_)
    · rintro σ' G ⟨rfl, rfl⟩
      walk_at "r"
      refine r_ixL (SqL.of hA) rfl ?_
      walk_at "r"
      refine r_setL (j := 2) hA rfl ?_
      walk_at "r"
      have hA2 : (upd G a (.lst ([V.int own, V.int sd, V.int n].set 2 (V.int (n + 1))))) a = some (.lst [.int own, .int sd, .int (n + 1)]) := upd_same
      have b2 : But a G (upd G a (.lst ([V.int own, V.int sd, V.int n].set 2 (V.int (n + 1))))) := But.put But.refl
      generalize upd G a (.lst ([V.int own, V.int sd, V.int n].set 2 (V.int (n + 1)))) = H2 at hA2 b2 ⊢
      refine ⟨by show 5 ≤ sizeLine; decide, fun p hp => ?_⟩
      have hA3 : (upd H2 p (.lst [.int 2147483647, .int 2147483629, .int 2147483587, .int 2147483579, .int 2147483563])) a = some (.lst [.int own, .int sd, .int (n + 1)]) := same_new hp _ _ hA2
      walk_at "r"
      refine r_ixL (SqL.of hA3) rfl ?_
      walk_at "r"
      refine r_I (by show (0 : Int) < _; decide) ?_
      obtain ⟨v, hv, hm⟩ := at_mem (xs := [.int 2147483647, .int 2147483629, .int 2147483587, .int 2147483579, .int 2147483563]) (i := (n + 1) % 5) (by omega) (by simp; omega)
      refine r_ixL (SqL.of upd_same) hv ?_
      obtain ⟨m, rfl, m1, m2⟩ : ∃ m : Int, v = .int m ∧ 0 < m ∧ m ≤ 2147483647 := by
        simp only [List.mem_cons, List.not_mem_nil, or_false] at hm
        rcases hm with rfl | rfl | rfl | rfl | rfl <;> exact ⟨_, rfl, by decide, by decide⟩
      have b3 := b2.trans (But.of (same_new hp (o := .lst [.int 2147483647, .int 2147483629, .int 2147483587, .int 2147483579, .int 2147483563])))
      generalize upd H2 p (.lst [.int 2147483647, .int 2147483629, .int 2147483587, .int 2147483579, .int 2147483563]) = H3 at hA3 b3 ⊢
      walk_at "r"
      refine r_ixL (SqL.of hA3) rfl ?_
      walk_at "r"
      refine r_ixL (SqL.of hA3) rfl ?_
      refine r_I (cms (by omega) (by omega) (by omega) (by omega)) ?_
      generalize hx : (_ : Int) * (n + 1) = x1
      have hx1 : 0 ≤ x1 := by omega
      have hx2 : x1 ≤ 1000000000000 := by omega
      have hx3 := mulB hx1 hx2 (show 0 ≤ n + 1 by omega) (show n + 1 ≤ 2000000 by omega) (show (1000000000000 : Int) * 2000000 ≤ 2000000000000000000 by decide)
      walk_at "r"
      refine r_ixL (SqL.of hA3) rfl ?_
      refine r_I (cms (by omega) (by omega) (by omega) (by omega)) ?_
      generalize x1 * (n + 1) = x2 at hx3 ⊢
      walk_at "r"
      refine r_I (cpw (by omega) (by omega) (by decide) (by decide)) ?_
      walk_at "r"
      refine r_I m1 ?_
      walk_at "r"
      generalize hb : (sd + x2 + _) ^ (3 : Int).toNat = cub
      have t1 := Int.emod_nonneg cub (Int.ne_of_gt m1)
      have t2 := Int.emod_lt_of_pos cub m1
      generalize cub % m = bl at t1 t2 ⊢
      refine r_I (by show (0 : Int) < _; decide) ?_
      walk_at "r"
      refine r_ixL (SqL.of hA3) rfl ?_
      refine r_I (cms (by omega) (by omega) (by omega) (by omega)) ?_
      walk_at "r"
      refine r_I (cms (by omega) (by omega) (by omega) (by omega)) ?_
      walk_at "r"
      refine r_I (by show (0 : Int) < _; decide) ?_
      walk_at "r"
      refine r_I (cdw (by decide) (by decide)) ?_
      walk_at "r"
      refine r_I hu ?_
      exact q _ _ b3 ⟨own, sd, n + 1, hA3, o1, o2, s1, s2, by omega, by omega⟩ (Int.emod_nonneg _ (by omega)) (Int.emod_lt_of_pos _ hu)
    · walk_at "r"
      refine r_ixL (SqL.of hA) rfl ?_
      walk_at "r"
      refine r_dec (fun h => ?_) (fun h => ?_)
      · walk_at "r"
        refine r_ixL (SqL.of hA) rfl ?_
        walk_at "r"
        refine r_I hu ?_
        walk_at "r"
        refine r_ixL (SqL.of hA) rfl ?_
        walk_at "r"
        refine r_I (cdw hu (by omega)) ?_
        walk_at "r"
        refine r_setL (j := 0) hA rfl ?_
        walk_at "r"
        obtain ⟨d1, d2⟩ := div_sz o1 o2 hu
        exact q _ _ (But.put But.refl) ⟨own / u, sd, n, upd_same, d1, d2, s1, s2, n1, by omega⟩ (Int.emod_nonneg _ (by omega)) (Int.emod_lt_of_pos _ hu)
      · walk_at "r"
        exact fin _ _ ⟨rfl, rfl⟩
def sp_Lof (K : PySem.W.Frag) : Sp := fun vs H Q _ => ∃ (a l : Addr) (xs : List V) (c : Int), vs = [.ref a, .ref l] ∧ PotAt H a c ∧ c ≤ 1000000 ∧ SqL K H l xs ∧ l ≠ a ∧ 0 < xs.length ∧ xs.length ≤ 1000000 ∧ ∀ H' x, But a H H' → PotAt H' a (c + 1) → x ∈ xs → Q x H'
theorem ok_Lof (T : Txt K mg) : Ok P w K mg base CX0 (2) "_law_of" s_Lof ["pot", "some"] (sp_Lof K) := by
  obtain ⟨fd, D⟩ := T.d_Lof
  refine ⟨⟨_, fd, T.g__law_of, D, D.bindsN (fun _ _ _ _ _ _ us hl => match us, hl with | [_, _], _ => rfl), ?_⟩⟩
  refine D.ok sc_Lof (fun vs H Q E h => ?_) (fun cdv A outer s H vs Q E hr h => ?_)
  · obtain ⟨a, l, xs, c, rfl, hP, hc, hl, hla, h0, hz, q⟩ := h
    rfl
  · obtain ⟨a, l, xs, c, rfl, hP, hc, hl, hla, h0, hz, q⟩ := h
    have F_Ltake := ok_Ltake (P := P) (w := w) (K := K) (mg := mg) (base := base) T
    refine ⟨_, PSs.nox (pss_one (ps_ret (pe_ix ix_list (pv 1) (pe_cl F_Ltake hr (by rfl) pass0 (pa_cons (pv 0) (pa_cons (pe_callB k_lnQ (by rfl) T.z_len (by decide +kernel) (pa_cons (pv 1) pa_nil)) pa_nil))) (fun _ _ => rfl)))), ?_⟩
    walk_at "r"
    refine r_lnL hl ?_
    walk_at "r"
    refine ⟨a, xs.length, c, rfl, hP, hc, by omega, by omega, fun H' d b p d0 d1 => ?_⟩
    obtain ⟨v, hv, hm⟩ := at_mem (xs := xs) d0 d1
    exact r_ixL (b.sql hla hl) hv (q _ _ b p hm)
def sp_Lcells (K : PySem.W.Frag) : Sp := fun vs H Q _ => ∃ (a : Addr) (xs : List V) (m : Int), vs = [.ref a, .int m] ∧ SqL K H a xs ∧ 1 ≤ m ∧ m ≤ 10 ∧ ∀ H' p (n : Nat), Same H H' → n ≤ 10 → H' p = some (.lst ((List.range n).map fun i : Nat => V.int i)) → Q (.ref p) H'
theorem ok_Lcells (T : Txt K mg) : Ok P w K mg base CX0 (1) "_law_cells" s_Lcells ["script", "most"] (sp_Lcells K) := by
  obtain ⟨fd, D⟩ := T.d_Lcells
  refine ⟨⟨_, fd, T.g__law_cells, D, D.bindsN (fun _ _ _ _ _ _ us hl => match us, hl with | [_, _], _ => rfl), ?_⟩⟩
  refine D.ok sc_Lcells (fun vs H Q E h => ?_) (fun cdv A outer s H vs Q E hr h => ?_)
  · obtain ⟨a, xs, m, rfl, hS, h1, h2, q⟩ := h
    rfl
  · obtain ⟨a, xs, m, rfl, hS, h1, h2, q⟩ := h
    refine ⟨_, PSs.nox (pss_one (ps_ret (pe_listRg rfl (by rfl) T.z_list (prg_1 (by rfl) T.z_range (pe_callB (k_max2 rfl) (by rfl) T.z_max (by decide +kernel) (pa_cons pe_int (pa_cons (pe_callB (k_min2 rfl) (by rfl) T.z_min (by decide +kernel) (pa_cons (pv 1) (pa_cons (pe_callB k_lnQ (by rfl) T.z_len (by decide +kernel) (pa_cons (pv 0) pa_nil)) pa_nil))) pa_nil))))))), ?_⟩
    walk_at "r"
    refine r_lnL hS ?_
    walk_at "r"
    generalize hk : (if (1 : Int) < (if (xs.length : Int) < m then (xs.length : Int) else m) then (if (xs.length : Int) < m then (xs.length : Int) else m) else 1) = k
    have k1 : 1 ≤ k ∧ k ≤ 10 := by
      subst hk
      split <;> split <;> omega
    refine ⟨RgOk.of_le (by decide) (by omega) (by decide) (by omega), fun p hp => ?_⟩
    refine q _ p k.toNat (same_new hp) (by omega) ?_
    rw [upd_same]
    unfold rgV
    congr 2
    simp

def sp_LsameN (n : Nat) (K : PySem.W.Frag) : Sp := fun vs H Q _ => ∃ x y : V, vs = [x, y] ∧ Eqv K H true n x y ∧ ∀ H', Same H H' → Q (.bl true) H'
theorem ok_Lsame0 (T : Txt K mg) : Ok P w K mg base CX0 (1) "_law_same" s_Lsame ["told", "due"] (sp_LsameN 0 K) := by
  obtain ⟨fd, D⟩ := T.d_Lsame
  refine ⟨⟨_, fd, T.g__law_same, D, D.bindsN (fun _ _ _ _ _ _ us hl => match us, hl with | [_, _], _ => rfl), ?_⟩⟩
  refine D.ok sc_Lsame (fun vs H Q E h => ?_) (fun cdv A outer s H vs Q E hr h => ?_)
  · obtain ⟨x, y, rfl, h, q⟩ := h
    rfl
  · obtain ⟨x, y, rfl, h, q⟩ := h
    refine ⟨_, PSs.nox (pss_cons (ps_if (pt_val (pe_callB call_isi (by rfl) T.z_isinstance (by decide +kernel) (pa_cons (pv 1) (pa_cons (pe_bltn (v := .ty "tuple") (by rfl) T.z_tuple (by decide +kernel) rfl) pa_nil))))
        (pss_cons ps_never
      (pss_one ps_never))
        pss_nil)
      (pss_cons (ps_if (pt_val (pe_callB call_isi (by rfl) T.z_isinstance (by decide +kernel) (pa_cons (pv 1) (pa_cons (pe_bltn (v := .ty "bool") (by rfl) T.z_bool (by decide +kernel) rfl) pa_nil))))
        (pss_one (ps_ret (pe_and (pe_callB call_isi (by rfl) T.z_isinstance (by decide +kernel) (pa_cons (pv 0) (pa_cons (pe_bltn (v := .ty "bool") (by rfl) T.z_bool (by decide +kernel) rfl) pa_nil))) (pe_one (pe_cmpR op_eq (pv 0) (pv 1) (nomark _))))))
        pss_nil)
      (pss_cons (ps_if (pt_val (pe_callB call_isi (by rfl) T.z_isinstance (by decide +kernel) (pa_cons (pv 1) (pa_cons (pe_bltn (v := .ty "int") (by rfl) T.z_int (by decide +kernel) rfl) pa_nil))))
        (pss_one (ps_ret (pe_and (pe_callB call_isi (by rfl) T.z_isinstance (by decide +kernel) (pa_cons (pv 0) (pa_cons (pe_bltn (v := .ty "int") (by rfl) T.z_int (by decide +kernel) rfl) pa_nil))) (pe_and (pe_not (pe_callB call_isi (by rfl) T.z_isinstance (by decide +kernel) (pa_cons (pv 0) (pa_cons (pe_bltn (v := .ty "bool") (by rfl) T.z_bool (by decide +kernel) rfl) pa_nil)))) (pe_one (pe_cmpR op_eq (pv 0) (pv 1) (nomark _)))))))
        pss_nil)
      (pss_one (ps_ret (pe_ifExp (pt_val (pe_callB call_isi (by rfl) T.z_isinstance (by decide +kernel) (pa_cons (pv 1) (pa_cons (pe_bltn (v := .ty "str") (by rfl) T.z_str (by decide +kernel) rfl) pa_nil)))) (pe_and (pe_callB call_isi (by rfl) T.z_isinstance (by decide +kernel) (pa_cons (pv 0) (pa_cons (pe_bltn (v := .ty "str") (by rfl) T.z_str (by decide +kernel) rfl) pa_nil))) (pe_one (pe_cmpR op_eq (pv 0) (pv 1) (nomark _)))) (pe_cmpR o_isN (pv 0) pe_non (nomark _)))))))), ?_⟩
    rcases h with ⟨i, rfl, rfl⟩ | ⟨l, rfl, rfl⟩ | ⟨rfl, rfl⟩ | ⟨_, b, rfl, rfl⟩
    · walk_at "r"
      rw [decide_eq_true rfl]
      exact q _ (Same.refl _)
    · walk_at "r"
      rw [decide_eq_true rfl]
      exact q _ (Same.refl _)
    · walk_at "r"
      rw [decide_eq_true rfl]
      exact q _ (Same.refl _)
    · walk_at "r"
      rw [decide_eq_true rfl]
      exact q _ (Same.refl _)
theorem ok_LsameS {m : Nat} (F_Lsame : Ok P w K mg base CX0 (m + 1) "_law_same" s_Lsame ["told", "due"] (sp_LsameN m K)) (T : Txt K mg) : Ok P w K mg base CX0 (m + 1 + 1) "_law_same" s_Lsame ["told", "due"] (sp_LsameN (m + 1) K) := by
  obtain ⟨fd, D⟩ := T.d_Lsame
  refine ⟨⟨_, fd, T.g__law_same, D, D.bindsN (fun _ _ _ _ _ _ us hl => match us, hl with | [_, _], _ => rfl), ?_⟩⟩
  refine D.ok sc_Lsame (fun vs H Q E h => ?_) (fun cdv A outer s H vs Q E hr h => ?_)
  · obtain ⟨x, y, rfl, h, q⟩ := h
    rfl
  · obtain ⟨x, y, rfl, h, q⟩ := h
    refine ⟨_, PSs.nox (pss_cons (ps_if (pt_val (pe_callB call_isi (by rfl) T.z_isinstance (by decide +kernel) (pa_cons (pv 1) (pa_cons (pe_bltn (v := .ty "tuple") (by rfl) T.z_tuple (by decide +kernel) rfl) pa_nil))))
        (pss_cons (ps_set (i := 2) sc_Lsame.nd rfl (by first | exact Or.inl rfl | exact Or.inr rfl) (pe_and (pe_callB call_isi (by rfl) T.z_isinstance (by decide +kernel) (pa_cons (pv 0) (pa_cons (pe_bltn (v := .ty "tuple") (by rfl) T.z_tuple (by decide +kernel) rfl) pa_nil))) (pe_one (pe_cmpR op_eq (pe_callB k_lnQ (by rfl) T.z_len (by decide +kernel) (pa_cons (pv 0) pa_nil)) (pe_callB k_lnQ (by rfl) T.z_len (by decide +kernel) (pa_cons (pv 1) pa_nil)) (nomark _)))))
      (pss_one (ps_ret (pe_and (pv 2) (pe_one (pe_callB (cr_all rfl) (by rfl) T.z_all (by decide +kernel) (pa_cons (pe_lc (own := [("one", 3), ("other", 4)]) (g := gTup K 2 (gCons (gName 3) (gCons (gName 4) gNil))) (tt := tYes) rfl sc_Lsame.nd (RZ.pi_zipA (by rfl) T.z_zip (pa_cons (pv 0) (pa_cons (pv 1) pa_nil))) (blkOk_by (N := ["told", "due", "is_fit", "one", "other"]) (sc := defScope s_Lsame) (by decide +kernel)) (fun _ _ _ _ _ => (pg_tup rfl (pgs_cons (pg_name (i := 3) sc_Lsame.nd rfl (by first | exact Or.inl rfl | exact Or.inr rfl)) (pgs_cons (pg_name (i := 4) sc_Lsame.nd rfl (by first | exact Or.inl rfl | exact Or.inr rfl)) pgs_nil)))) (fun _ _ _ _ _ => pts_nil) (fun _ _ _ _ _ => (pe_cl F_Lsame hr (by rfl) pass0 (pa_cons (pv 3) (pa_cons (pv 4) pa_nil)) (hj := Nat.le_refl _)))) pa_nil)))))))
        pss_nil)
      (pss_cons (ps_if (pt_val (pe_callB call_isi (by rfl) T.z_isinstance (by decide +kernel) (pa_cons (pv 1) (pa_cons (pe_bltn (v := .ty "bool") (by rfl) T.z_bool (by decide +kernel) rfl) pa_nil))))
        (pss_one (ps_ret (pe_and (pe_callB call_isi (by rfl) T.z_isinstance (by decide +kernel) (pa_cons (pv 0) (pa_cons (pe_bltn (v := .ty "bool") (by rfl) T.z_bool (by decide +kernel) rfl) pa_nil))) (pe_one (pe_cmpR op_eq (pv 0) (pv 1) (nomark _))))))
        pss_nil)
      (pss_cons (ps_if (pt_val (pe_callB call_isi (by rfl) T.z_isinstance (by decide +kernel) (pa_cons (pv 1) (pa_cons (pe_bltn (v := .ty "int") (by rfl) T.z_int (by decide +kernel) rfl) pa_nil))))
        (pss_one (ps_ret (pe_and (pe_callB call_isi (by rfl) T.z_isinstance (by decide +kernel) (pa_cons (pv 0) (pa_cons (pe_bltn (v := .ty "int") (by rfl) T.z_int (by decide +kernel) rfl) pa_nil))) (pe_and (pe_not (pe_callB call_isi (by rfl) T.z_isinstance (by decide +kernel) (pa_cons (pv 0) (pa_cons (pe_bltn (v := .ty "bool") (by rfl) T.z_bool (by decide +kernel) rfl) pa_nil)))) (pe_one (pe_cmpR op_eq (pv 0) (pv 1) (nomark _)))))))
        pss_nil)
      (pss_one (ps_ret (pe_ifExp (pt_val (pe_callB call_isi (by rfl) T.z_isinstance (by decide +kernel) (pa_cons (pv 1) (pa_cons (pe_bltn (v := .ty "str") (by rfl) T.z_str (by decide +kernel) rfl) pa_nil)))) (pe_and (pe_callB call_isi (by rfl) T.z_isinstance (by decide +kernel) (pa_cons (pv 0) (pa_cons (pe_bltn (v := .ty "str") (by rfl) T.z_str (by decide +kernel) rfl) pa_nil))) (pe_one (pe_cmpR op_eq (pv 0) (pv 1) (nomark _)))) (pe_cmpR o_isN (pv 0) pe_non (nomark _)))))))), ?_⟩
    rcases h with h | ⟨a, b, xs, ys, rfl, rfl, ha, hb, hl, hz, hi⟩
    · rcases h with ⟨i, rfl, rfl⟩ | ⟨l, rfl, rfl⟩ | ⟨rfl, rfl⟩ | ⟨_, b, rfl, rfl⟩
      · walk_at "r"
        rw [decide_eq_true rfl]
        exact q _ (Same.refl _)
      · walk_at "r"
        rw [decide_eq_true rfl]
        exact q _ (Same.refl _)
      · walk_at "r"
        rw [decide_eq_true rfl]
        exact q _ (Same.refl _)
      · walk_at "r"
        rw [decide_eq_true rfl]
        exact q _ (Same.refl _)
    · walk_at "r"
      refine r_isiT hb (b := true) (by decide +kernel) ?_
      walk_at "r"
      refine r_isiT ha (b := true) (by decide +kernel) ?_
      walk_at "r"
      refine r_lnU ha ?_
      walk_at "r"
      refine r_lnU hb ?_
      walk_at "r"
      refine r_yesD (by rw [hl]) ?_
      walk_at "r"
      refine ⟨a, b, xs, ys, rfl, .inr ⟨ha, hb, fun D hD => ?_⟩⟩
      refine lc_acc (n := xs.length) (fun _ H' => Same H H') (fun _ v => v = .bl true) hz (same_new hD) (fun i H' acc acc' e _ => Same.mut e hD) (fun i H' hi' e => ?_) (fun H' e => ?_) ?_ ?_
      · obtain ⟨x, hx⟩ : ∃ x, xs[i]? = some x := ⟨xs[i], List.getElem?_eq_getElem hi'⟩
        obtain ⟨y, hy⟩ : ∃ y, ys[i]? = some y := ⟨ys[i], List.getElem?_eq_getElem (by omega)⟩
        exact ⟨xs, ys, x, y, Same.sqt e ha, Same.sqt e hb, hx, hy⟩
      · exact ⟨xs, ys, Same.sqt e ha, Same.sqt e hb, .inl (Nat.le_refl _)⟩
      · rintro i v H' H2 acc hi' e hacc ⟨T2, x, y, rfl, hT, rfl, f1, f2⟩ R hR
        have ex := f1 _ (Same.sqt e ha)
        have ey := f2 _ (Same.sqt e hb)
        refine r_gTup (SqT.of upd_same) rfl ?_
        walk_at "r"
        refine ⟨rfl, ?_⟩
        walk_at "r"
        have e2 := e.trans (same_new hT (o := .tup [x, y]))
        exact ⟨x, y, rfl, (hi i x y ex ey).same e2, fun H4 e4 => hR _ _ (e4 _ _ (same_new hT _ _ hacc)) rfl (e2.trans e4)⟩
      · intro H' acc hl2 hv hacc e
        walk_at "r"
        rw [all_true hl2 hv] at hacc
        exact r_allT hacc (q _ e)
theorem ok_Lsame (T : Txt K mg) : ∀ n, Ok P w K mg base CX0 (n + 1) "_law_same" s_Lsame ["told", "due"] (sp_LsameN n K)
  | 0 => ok_Lsame0 T
  | n + 1 => ok_LsameS (ok_Lsame T n) T

def sp_Llaw_letters (K : PySem.W.Frag) : Sp := fun vs H Q _ => ∃ (t : Addr) (h r : List Nat) (n : Nat), vs = [.ref t, .int n] ∧ SqT K H t [.str (S h), .str (S r)] ∧ 0 < r.length ∧ h.length ≤ 5000 ∧ r.length ≤ 5000 ∧ n ≤ 5000 ∧ Q (.str (S (seg (rw h r) 0 n))) H
theorem ok_Llaw_letters (T : Txt K mg) : Ok P w K mg base CX0 (1) "_law_law_letters" s_Llaw_letters ["loss", "many"] (sp_Llaw_letters K) := by
  obtain ⟨fd, D⟩ := T.d_Llaw_letters
  refine ⟨⟨_, fd, T.g__law_law_letters, D, D.bindsN (fun _ _ _ _ _ _ us hl => match us, hl with | [_, _], _ => rfl), ?_⟩⟩
  refine D.ok sc_Llaw_letters (fun vs H Q E h => ?_) (fun cdv A outer s H vs Q E hr h => ?_)
  · obtain ⟨t, h, r, n, rfl, hT, r0, lh, lr, hn, q⟩ := h
    rfl
  · obtain ⟨t, h, r, n, rfl, hT, r0, lh, lr, hn, q⟩ := h
    refine ⟨_, PSs.nox (pss_cons (ps_asg (pv 0) (pg_tup rfl (pgs_cons (pg_name (i := 2) sc_Llaw_letters.nd rfl (by first | exact Or.inl rfl | exact Or.inr rfl)) (pgs_cons (pg_name (i := 3) sc_Llaw_letters.nd rfl (by first | exact Or.inl rfl | exact Or.inr rfl)) pgs_nil))))
      (pss_one (ps_ret (pe_slice sl_str (pe_op o_addS (pv 2) (pe_op op_mul_str (pv 3) (pe_op op_add (pe_op op_fdiv (pv 1) (pe_callB k_lnS (by rfl) T.z_len (by decide +kernel) (pa_cons (pv 3) pa_nil))) pe_int))) po_none (po_some (pv 1)))))), ?_⟩
    walk_at "r"
    refine r_gTup hT rfl ?_
    walk_at "r"
    refine r_lnT (l := r) (by omega) ?_
    refine r_I ⟨by omega, by omega⟩ ?_
    walk_at "r"
    rw [show (n : Int) / (r.length : Int) + 1 = ((n / r.length + 1 : Nat) : Int) from rfl]
    have d1 := Nat.div_mul_le_self n r.length
    have d2 := Nat.div_le_self n r.length
    have d3 := Nat.lt_div_mul_add (a := n) r0
    have hz : r.length * (n / r.length + 1) ≤ 10000 := by
      rw [Nat.mul_add, Nat.mul_comm]
      omega
    refine r_mulS (n := n / r.length + 1) (by omega) (by omega) ?_
    have hf := rep_len_mul (n / r.length + 1) r
    rw [Nat.mul_comm] at hf
    refine r_addS (by omega) ?_
    walk_at "r"
    refine r_slS (by rw [List.length_append]; omega) ?_
    rw [cut_take, letters_seg r0 (by rw [Nat.succ_mul]; omega)]
    exact q
def sp_Llaw_least (K : PySem.W.Frag) : Sp := fun vs H Q _ => ∃ (t : Addr) (h r : List Nat), vs = [.ref t] ∧ SqT K H t [.str (S h), .str (S r)] ∧ 0 < r.length ∧ h.length ≤ 700 ∧ r.length ≤ 700 ∧ ∀ a b H' u, Least h r a b → Same H H' → H' u = some (.tup [.str (S a), .str (S b)]) → Q (.ref u) H'
theorem ok_Llaw_least (T : Txt K mg) : Ok P w K mg base CX0 (2) "_law_law_least" s_Llaw_least ["loss"] (sp_Llaw_least K) := by
  obtain ⟨fd, D⟩ := T.d_Llaw_least
  refine ⟨⟨_, fd, T.g__law_law_least, D, D.bindsN (fun _ _ _ _ _ _ us hl => match us, hl with | [_], _ => rfl), ?_⟩⟩
  refine D.ok sc_Llaw_least (fun vs H Q E h => ?_) (fun cdv A outer s H vs Q E hr h => ?_)
  · obtain ⟨t, h, r, rfl, hT, r0, lh, lr, q⟩ := h
    rfl
  · obtain ⟨t, h, r, rfl, hT, r0, lh, lr, q⟩ := h
    have F_Llaw_letters := ok_Llaw_letters (P := P) (w := w) (K := K) (mg := mg) (base := base) T
    refine ⟨_, PSs.nox (pss_cons (ps_set (i := 1) sc_Llaw_least.nd rfl (by first | exact Or.inl rfl | exact Or.inr rfl) (pe_op op_add (pe_callB k_lnS (by rfl) T.z_len (by decide +kernel) (pa_cons (pe_ix ix_tup (pv 0) pe_int (fun _ _ => rfl)) pa_nil)) (pe_op op_mul pe_int (pe_callB k_lnS (by rfl) T.z_len (by decide +kernel) (pa_cons (pe_ix ix_tup (pv 0) pe_int (fun _ _ => rfl)) pa_nil)))))
      (pss_cons (ps_set (i := 2) sc_Llaw_least.nd rfl (by first | exact Or.inl rfl | exact Or.inr rfl) (pe_cl F_Llaw_letters hr (by rfl) pass0 (pa_cons (pv 0) (pa_cons (pe_op op_mul pe_int (pv 1)) pa_nil))))
      (pss_cons (ps_for PassesOwn.never rfl (pi_range1 (by rfl) T.z_range (pa_cons (pe_op op_add (pe_callB k_lnS (by rfl) T.z_len (by decide +kernel) (pa_cons (pe_ix ix_tup (pv 0) pe_int (fun _ _ => rfl)) pa_nil)) pe_int) pa_nil)) (pg_name (i := 3) sc_Llaw_least.nd rfl (by first | exact Or.inl rfl | exact Or.inr rfl))
        (pss_one (ps_for PassesOwn.never rfl (pi_range2 (by rfl) T.z_range (pa_cons pe_int (pa_cons (pe_op op_add (pe_callB k_lnS (by rfl) T.z_len (by decide +kernel) (pa_cons (pe_ix ix_tup (pv 0) pe_int (fun _ _ => rfl)) pa_nil)) pe_int) pa_nil))) (pg_name (i := 4) sc_Llaw_least.nd rfl (by first | exact Or.inl rfl | exact Or.inr rfl))
        (pss_one (ps_if (pt_cmpR op_eq (pe_cl F_Llaw_letters hr (by rfl) pass0 (pa_cons (pe_tup (pa_cons (pe_slice sl_str (pv 2) po_none (po_some (pv 3))) (pa_cons (pe_slice sl_str (pv 2) (po_some (pv 3)) (po_some (pe_op op_add (pv 3) (pv 4)))) pa_nil))) (pa_cons (pe_op op_mul pe_int (pv 1)) pa_nil))) (pv 2) (nomark _))
        (pss_one (ps_ret (pe_tup (pa_cons (pe_slice sl_str (pv 2) po_none (po_some (pv 3))) (pa_cons (pe_slice sl_str (pv 2) (po_some (pv 3)) (po_some (pe_op op_add (pv 3) (pv 4)))) pa_nil)))))
        pss_nil)))))
      (pss_one (ps_ret (pv 0)))))), ?_⟩
    have hex : ∃ m p, IsMin (rw h r) m p := by
      obtain ⟨m, ⟨p0, hp0, hpp⟩, hm⟩ := least_ex (P := fun m => ∃ p, 0 < p ∧ Per (rw h r) m p) h.length ⟨r.length, r0, rw_per h r⟩
      obtain ⟨p, hp, hl⟩ := least_ex (P := fun p => 0 < p ∧ Per (rw h r) m p) p0 ⟨hp0, hpp⟩
      exact ⟨m, p, hp.1, hp.2, fun m' p' h1 h2 => hm m' ⟨p', h1, h2⟩, fun p' h1 h2 => hl p' ⟨h1, h2⟩⟩
    obtain ⟨m, p, hmin⟩ := hex
    obtain ⟨hmh, hpr⟩ := hmin.le r0 (rw_per h r)
    have hleast : Least h r (seg (rw h r) 0 m) (seg (rw h r) m p) := ⟨per_rw hmin.per hmin.pos, by rw [seg_len, seg_len]; exact hmin⟩
    walk_at "r"
    refine r_ixT hT rfl ?_
    walk_at "r"
    refine r_lnT (l := h) (by omega) ?_
    walk_at "r"
    refine r_ixT hT rfl ?_
    walk_at "r"
    refine r_lnT (l := r) (by omega) ?_
    refine r_I (.inl ⟨by decide, by decide⟩) ?_
    walk_at "r"
    obtain ⟨mn, hmn⟩ : ∃ mn : Nat, mn = h.length + 2 * r.length := ⟨_, rfl⟩
    rw [show (h.length : Int) + 2 * (r.length : Int) = (mn : Int) by omega]
    refine r_I (.inl ⟨by decide, by decide⟩) ?_
    rw [show 2 * (mn : Int) = ((2 * mn : Nat) : Int) by omega]
    walk_at "r"
    refine ⟨t, h, r, 2 * mn, rfl, hT, r0, by omega, by omega, by omega, ?_⟩
    walk_at "r"
    refine r_ixT hT rfl ?_
    walk_at "r"
    refine r_lnT (l := h) (by omega) ?_
    walk_at "r"
    have hrow : (seg (rw h r) 0 (2 * mn)).length = 2 * mn := seg_len _ _ _
    refine ⟨_, rfl, by omega, by omega, for_range (lo := 0) (n := h.length + 1) (fun i σ H' => ∃ y z, σ = [some (.ref t), some (.int mn), some (.str (S (seg (rw h r) 0 (2 * mn)))), y, z] ∧ Same H H' ∧ i ≤ m) ⟨_, _, rfl, Same.refl _, Nat.zero_le _⟩ ?_ ?_⟩
    · rintro i σ H1 hi ⟨y, z, rfl, e1, him⟩
      rw [show (0 : Int) + (i : Int) = (i : Int) by omega]
      walk_at "r"
      refine r_ixT (Same.sqt e1 hT) rfl ?_
      walk_at "r"
      refine r_lnT (l := r) (by omega) ?_
      walk_at "r"
      refine ⟨_, _, rfl, ⟨by decide, by decide, by omega, by omega⟩, ?_⟩
      rw [show ((r.length : Int) + 1 - 1).toNat = r.length by omega]
      refine for_range (lo := 1) (n := r.length) (fun j σ H' => ∃ z, σ = [some (.ref t), some (.int mn), some (.str (S (seg (rw h r) 0 (2 * mn)))), some (.int i), z] ∧ Same H H' ∧ (i < m ∨ (i = m ∧ j < p))) ⟨_, rfl, e1, ?_⟩ ?_ ?_
      · by_cases e : i = m
        · exact .inr ⟨e, hmin.pos⟩
        · exact .inl (by omega)
      · rintro j σ H2 hj ⟨z, rfl, e2, hij⟩
        rw [show (1 : Int) + (j : Int) = ((j + 1 : Nat) : Int) by omega]
        walk_at "r"
        refine r_slS (by omega) ?_
        rw [cut_take, seg_take (by omega)]
        walk_at "r"
        rw [show (i : Int) + ((j + 1 : Nat) : Int) = ((i + (j + 1) : Nat) : Int) by omega]
        refine r_slS (by omega) ?_
        rw [cut_mid (by omega) (by omega), seg_drop, seg_take (by omega), show i + (j + 1) - i = j + 1 by omega, Nat.zero_add]
        walk_at "r"
        refine ⟨by show 2 ≤ sizeLine; decide, fun u hu => ?_⟩
        walk_at "r"
        refine r_I (.inl ⟨by decide, by decide⟩) ?_
        rw [show 2 * (mn : Int) = ((2 * mn : Nat) : Int) by omega]
        walk_at "r"
        have e3 := e2.trans (same_new hu (o := .tup [.str (S (seg (rw h r) 0 i)), .str (S (seg (rw h r) i (j + 1)))]))
        refine ⟨u, seg (rw h r) 0 i, seg (rw h r) i (j + 1), 2 * mn, rfl, SqT.of upd_same, by rw [seg_len]; omega, by rw [seg_len]; omega, by rw [seg_len]; omega, by omega, ?_⟩
        walk_at "r"
        have ck := cand_check (h := h) (r := r) (m := i) (p := j + 1) (n := 2 * mn) r0 (by omega) (by omega) (by omega) (by omega)
        refine r_dec (fun c => ?_) (fun c => ?_)
        · have pc := ck.mp (S_iff.mp c)
          obtain ⟨g1, g2⟩ := hmin.le (by omega) pc
          obtain rfl : i = m := by omega
          obtain rfl : p = j + 1 := by omega
          walk_at "r"
          refine r_slS (by omega) ?_
          rw [cut_take, seg_take (by omega)]
          walk_at "r"
          rw [show (i : Int) + ((j + 1 : Nat) : Int) = ((i + (j + 1) : Nat) : Int) by omega]
          refine r_slS (by omega) ?_
          rw [cut_mid (by omega) (by omega), seg_drop, seg_take (by omega), show i + (j + 1) - i = j + 1 by omega, Nat.zero_add]
          walk_at "r"
          refine ⟨by show 2 ≤ sizeLine; decide, fun v hv => ?_⟩
          exact q _ _ _ v hleast (e3.trans (same_new hv)) upd_same
        · walk_at "r"
          refine ⟨_, rfl, e3, ?_⟩
          rcases hij with hij | ⟨rfl, hij⟩
          · exact .inl hij
          · refine .inr ⟨rfl, ?_⟩
            by_cases e : p = j + 1
            · subst e
              exact absurd (S_iff.mpr (ck.mpr hmin.per)) c
            · omega
      · rintro σ H2 ⟨z, rfl, e2, hij⟩
        exact ⟨_, _, rfl, e2, by omega⟩
    · rintro σ H1 ⟨y, z, rfl, e1, him⟩
      omega
def sp_Llaw_word_drawn (K : PySem.W.Frag) : Sp := fun vs H Q _ => ∃ (a : Addr) (m : Nat) (c : Int), vs = [.ref a, .int m] ∧ PotAt H a c ∧ c ≤ 900000 ∧ m ≤ 100 ∧ ∀ H' l, But a H H' → PotAt H' a (c + 101) → Wd l → l.length ≤ m → Q (.str (S l)) H'
theorem ok_Llaw_word_drawn (T : Txt K mg) : Ok P w K mg base CX0 (3) "_law_law_word_drawn" s_Llaw_word_drawn ["pot", "most"] (sp_Llaw_word_drawn K) := by
  obtain ⟨fd, D⟩ := T.d_Llaw_word_drawn
  refine ⟨⟨_, fd, T.g__law_law_word_drawn, D, D.bindsN (fun _ _ _ _ _ _ us hl => match us, hl with | [_, _], _ => rfl), ?_⟩⟩
  refine D.ok sc_Llaw_word_drawn (fun vs H Q E h => ?_) (fun cdv A outer s H vs Q E hr h => ?_)
  · obtain ⟨a, m, c, rfl, hP, hc, hm, q⟩ := h
    rfl
  · obtain ⟨a, m, c, rfl, hP, hc, hm, q⟩ := h
    have F_Lof := ok_Lof (P := P) (w := w) (K := K) (mg := mg) (base := base) T
    have F_Ltake := ok_Ltake (P := P) (w := w) (K := K) (mg := mg) (base := base) T
    refine ⟨_, PSs.nox (pss_one (ps_ret (pe_jn (pe_strS [] (by rfl)) (pe_lc (own := [("lap", 2)]) (g := gName 2) (tt := tYes) rfl sc_Llaw_word_drawn.nd (pi_range1 (by rfl) T.z_range (pa_cons (pe_cl F_Ltake hr (by rfl) pass0 (pa_cons (pv 0) (pa_cons (pe_op op_add (pv 1) pe_int) pa_nil))) pa_nil)) (blkOk_by (N := ["pot", "most", "lap"]) (sc := defScope s_Llaw_word_drawn) (by decide +kernel)) (fun _ _ _ _ _ => (pg_name (i := 2) sc_Llaw_word_drawn.nd rfl (by first | exact Or.inl rfl | exact Or.inr rfl))) (fun _ _ _ _ _ => pts_nil) (fun _ _ _ _ _ => (pe_cl F_Lof hr (by rfl) pass0 (pa_cons (pv 0) (pa_cons (pe_callTy (call_list_txt rfl) (by rfl) T.z_list (by decide +kernel) (pa_cons (pe_strS [110, 102, 115] (by rfl)) pa_nil)) pa_nil)))))))), ?_⟩
    walk_at "r"
    refine ⟨⟨_, rfl⟩, ?_⟩
    walk_at "r"
    refine ⟨a, (m : Int) + 1, c, rfl, hP, by omega, by omega, by omega, fun H1 d b1 P1 d0 d1 => ?_⟩
    obtain ⟨n, rfl⟩ := Int.eq_ofNat_of_zero_le d0
    walk_at "r"
    refine ⟨_, rfl, by omega, by omega, fun D hD => ?_⟩
    refine lc_acc (n := n) (fun i G' => But a H1 G' ∧ PotAt G' a (c + 1 + i)) (fun _ v => ∃ c : Nat, v = .str (S [c]) ∧ (c = 110 ∨ c = 102 ∨ c = 115)) (by omega) ?_ (fun i G' acc acc' e h3 => ?_) (fun i G' hi e => hi) (fun G' e => Nat.le_refl _) ?_ ?_
    · exact ⟨But.of (same_new hD), (P1.new hD).mono (by omega)⟩
    · exact ⟨e.1.mut hD, e.2.ne (P1.fresh hD)⟩
    · rintro i v G' G2 acc hi ⟨e, Pe⟩ hacc ⟨rfl, rfl⟩ R hR
      walk_at "r"
      refine ⟨rfl, ?_⟩
      walk_at "r"
      refine r_listS (l := [110, 102, 115]) (by decide) fun p5 hp5 => ?_
      walk_at "r"
      refine ⟨a, p5, _, _, rfl, Pe.new hp5, by omega, SqL.of upd_same, Pe.fresh hp5, by decide, by decide, fun G3 x b P5 hx => ?_⟩
      have hDa : D ≠ a := P1.fresh hD
      exact hR _ _ (b _ _ hDa (same_new hp5 _ _ hacc)) (fate_of hx) ⟨(e.trans (But.of (same_new hp5))).trans b, P5.mono (by omega)⟩
    · rintro G' acc hl hv hacc ⟨e, Pe⟩
      obtain ⟨l, rfl, hwl, hll⟩ := chars_of hv
      refine r_joinC (SqL.of hacc) (by omega) ?_
      exact q _ _ (b1.trans e) (Pe.mono (by omega)) hwl (by omega)
def sp_Lrow_letters (K : PySem.W.Frag) : Sp := fun vs H Q _ => ∃ (t : Addr) (h r : List Nat) (n : Nat), vs = [.ref t, .int n] ∧ SqT K H t [.str (S h), .str (S r)] ∧ 0 < r.length ∧ h.length ≤ 5000 ∧ r.length ≤ 5000 ∧ n ≤ 5000 ∧ Q (.str (S (seg (rw h r) 0 n))) H
theorem ok_Lrow_letters (T : Txt K mg) : Ok P w K mg base CX0 (1) "_law_row_letters" s_Lrow_letters ["loss", "many"] (sp_Lrow_letters K) := by
  obtain ⟨fd, D⟩ := T.d_Lrow_letters
  refine ⟨⟨_, fd, T.g__law_row_letters, D, D.bindsN (fun _ _ _ _ _ _ us hl => match us, hl with | [_, _], _ => rfl), ?_⟩⟩
  refine D.ok sc_Lrow_letters (fun vs H Q E h => ?_) (fun cdv A outer s H vs Q E hr h => ?_)
  · obtain ⟨t, h, r, n, rfl, hT, r0, lh, lr, hn, q⟩ := h
    rfl
  · obtain ⟨t, h, r, n, rfl, hT, r0, lh, lr, hn, q⟩ := h
    refine ⟨_, PSs.nox (pss_cons (ps_asg (pv 0) (pg_tup rfl (pgs_cons (pg_name (i := 2) sc_Lrow_letters.nd rfl (by first | exact Or.inl rfl | exact Or.inr rfl)) (pgs_cons (pg_name (i := 3) sc_Lrow_letters.nd rfl (by first | exact Or.inl rfl | exact Or.inr rfl)) pgs_nil))))
      (pss_one (ps_ret (pe_slice sl_str (pe_op o_addS (pv 2) (pe_op op_mul_str (pv 3) (pe_op op_add (pe_op op_fdiv (pv 1) (pe_callB k_lnS (by rfl) T.z_len (by decide +kernel) (pa_cons (pv 3) pa_nil))) pe_int))) po_none (po_some (pv 1)))))), ?_⟩
    walk_at "r"
    refine r_gTup hT rfl ?_
    walk_at "r"
    refine r_lnT (l := r) (by omega) ?_
    refine r_I ⟨by omega, by omega⟩ ?_
    walk_at "r"
    rw [show (n : Int) / (r.length : Int) + 1 = ((n / r.length + 1 : Nat) : Int) from rfl]
    have d1 := Nat.div_mul_le_self n r.length
    have d2 := Nat.div_le_self n r.length
    have d3 := Nat.lt_div_mul_add (a := n) r0
    have hz : r.length * (n / r.length + 1) ≤ 10000 := by
      rw [Nat.mul_add, Nat.mul_comm]
      omega
    refine r_mulS (n := n / r.length + 1) (by omega) (by omega) ?_
    have hf := rep_len_mul (n / r.length + 1) r
    rw [Nat.mul_comm] at hf
    refine r_addS (by omega) ?_
    walk_at "r"
    refine r_slS (by rw [List.length_append]; omega) ?_
    rw [cut_take, letters_seg r0 (by rw [Nat.succ_mul]; omega)]
    exact q

def sp_Lrow_same (K : PySem.W.Frag) : Sp := fun vs H Q _ => ∃ (t u : Addr) (h r h' r' : List Nat), vs = [.ref t, .ref u] ∧ LossAt K H t h r ∧ LossAt K H u h' r' ∧ ∀ k, (k = true ↔ rw h r = rw h' r') → Q (.bl k) H
theorem ok_Lrow_same (T : Txt K mg) : Ok P w K mg base CX0 (2) "_law_row_same" s_Lrow_same ["one", "other"] (sp_Lrow_same K) := by
  obtain ⟨fd, D⟩ := T.d_Lrow_same
  refine ⟨⟨_, fd, T.g__law_row_same, D, D.bindsN (fun _ _ _ _ _ _ us hl => match us, hl with | [_, _], _ => rfl), ?_⟩⟩
  refine D.ok sc_Lrow_same (fun vs H Q E h => ?_) (fun cdv A outer s H vs Q E hr h => ?_)
  · obtain ⟨t, u, h, r, h', r', rfl, hL, hM, q⟩ := h
    rfl
  · obtain ⟨t, u, h, r, h', r', rfl, hL, hM, q⟩ := h
    have F_Lrow_letters := ok_Lrow_letters (P := P) (w := w) (K := K) (mg := mg) (base := base) T
    refine ⟨_, PSs.nox (pss_cons (ps_set (i := 2) sc_Lrow_same.nd rfl (by first | exact Or.inl rfl | exact Or.inr rfl) (pe_op op_add (pe_op op_add (pe_callB (k_max2 rfl) (by rfl) T.z_max (by decide +kernel) (pa_cons (pe_callB k_lnS (by rfl) T.z_len (by decide +kernel) (pa_cons (pe_ix ix_tup (pv 0) pe_int (fun _ _ => rfl)) pa_nil)) (pa_cons (pe_callB k_lnS (by rfl) T.z_len (by decide +kernel) (pa_cons (pe_ix ix_tup (pv 1) pe_int (fun _ _ => rfl)) pa_nil)) pa_nil))) (pe_callB k_lnS (by rfl) T.z_len (by decide +kernel) (pa_cons (pe_ix ix_tup (pv 0) pe_int (fun _ _ => rfl)) pa_nil))) (pe_callB k_lnS (by rfl) T.z_len (by decide +kernel) (pa_cons (pe_ix ix_tup (pv 1) pe_int (fun _ _ => rfl)) pa_nil))))
      (pss_one (ps_ret (pe_cmpR op_eq (pe_cl F_Lrow_letters hr (by rfl) pass0 (pa_cons (pv 0) (pa_cons (pv 2) pa_nil))) (pe_cl F_Lrow_letters hr (by rfl) pass0 (pa_cons (pv 1) (pa_cons (pv 2) pa_nil))) (nomark _))))), ?_⟩
    obtain ⟨hT, wh, wr, lh, lr, r0⟩ := hL
    obtain ⟨hU, wh', wr', lh', lr', r0'⟩ := hM
    walk_at "r"
    refine r_ixT hT rfl ?_
    walk_at "r"
    refine r_lnT (l := h) (by omega) ?_
    walk_at "r"
    refine r_ixT hU rfl ?_
    walk_at "r"
    refine r_lnT (l := h') (by omega) ?_
    walk_at "r"
    refine r_ixT hT rfl ?_
    walk_at "r"
    refine r_lnT (l := r) (by omega) ?_
    walk_at "r"
    refine r_ixT hU rfl ?_
    walk_at "r"
    refine r_lnT (l := r') (by omega) ?_
    walk_at "r"
    obtain ⟨n, hn, hn2⟩ : ∃ n : Nat, (if (h'.length : Int) > (h.length : Int) then (h'.length : Int) else (h.length : Int)) + (r.length : Int) + (r'.length : Int) = (n : Int) ∧ n = max h.length h'.length + r.length + r'.length := by
      refine ⟨_, ?_, rfl⟩
      split <;> omega
    rw [hn]
    refine ⟨t, h, r, n, rfl, hT, r0, by omega, by omega, by omega, ?_⟩
    walk_at "r"
    refine ⟨u, h', r', n, rfl, hU, r0', by omega, by omega, by omega, ?_⟩
    walk_at "r"
    refine q _ ?_
    rw [decide_eq_true_eq, S_iff]
    exact rows_check r0 r0' (by omega) (by omega)
def sp_Ltold_otherwise (K : PySem.W.Frag) : Sp := fun vs H Q _ => ∃ (a t : Addr) (c : Int) (h r : List Nat), vs = [.ref a, .ref t] ∧ PotAt H a c ∧ c ≤ 900000 ∧ t ≠ a ∧ LossAt K H t h r ∧ h.length ≤ 10 ∧ r.length ≤ 10 ∧
  ∀ H' u h' r', But a H H' → PotAt H' a (c + 20) → H u = none → H' u = some (.tup [.str (S h'), .str (S r')]) → Wd h' → Wd r' → h'.length ≤ 200 → r'.length ≤ 200 → 0 < r'.length → rw h' r' = rw h r → Q (.ref u) H'
theorem ok_Ltold_otherwise (T : Txt K mg) : Ok P w K mg base CX0 (2) "_law_told_otherwise" s_Ltold_otherwise ["pot", "loss"] (sp_Ltold_otherwise K) := by
  obtain ⟨fd, D⟩ := T.d_Ltold_otherwise
  refine ⟨⟨_, fd, T.g__law_told_otherwise, D, D.bindsN (fun _ _ _ _ _ _ us hl => match us, hl with | [_, _], _ => rfl), ?_⟩⟩
  refine D.ok sc_Ltold_otherwise (fun vs H Q E h => ?_) (fun cdv A outer s H vs Q E hr h => ?_)
  · obtain ⟨a, t, c, h, r, rfl, hP, hc, hta, hL, bh, br, q⟩ := h
    rfl
  · obtain ⟨a, t, c, h, r, rfl, hP, hc, hta, hL, bh, br, q⟩ := h
    have F_Ltake := ok_Ltake (P := P) (w := w) (K := K) (mg := mg) (base := base) T
    refine ⟨_, PSs.nox (pss_cons (ps_asg (pv 1) (pg_tup rfl (pgs_cons (pg_name (i := 3) sc_Ltold_otherwise.nd rfl (by first | exact Or.inl rfl | exact Or.inr rfl)) (pgs_cons (pg_name (i := 4) sc_Ltold_otherwise.nd rfl (by first | exact Or.inl rfl | exact Or.inr rfl)) pgs_nil))))
      (pss_cons (ps_for PassesOwn.never rfl (pi_range1 (by rfl) T.z_range (pa_cons (pe_op op_add pe_int (pe_cl F_Ltake hr (by rfl) pass0 (pa_cons (pv 0) (pa_cons pe_int pa_nil)))) pa_nil)) (pg_name (i := 2) sc_Ltold_otherwise.nd rfl (by first | exact Or.inl rfl | exact Or.inr rfl))
        (pss_cons (ps_set (i := 5) sc_Ltold_otherwise.nd rfl (by first | exact Or.inl rfl | exact Or.inr rfl) (pe_cl F_Ltake hr (by rfl) pass0 (pa_cons (pv 0) (pa_cons pe_int pa_nil))))
      (pss_one (ps_if (pt_cmpR op_eq (pv 5) pe_int (nomark _))
        (pss_one (ps_set (i := 3) sc_Ltold_otherwise.nd rfl (by first | exact Or.inl rfl | exact Or.inr rfl) (pe_op o_addS (pv 3) (pv 4))))
        (pss_one (ps_if (PW.pt (pw_and (pt_cmpR op_eq (pv 5) pe_int (nomark _)) (pw_and1 (pt_cmpR op_lt (pe_callB k_lnS (by rfl) T.z_len (by decide +kernel) (pa_cons (pv 4) pa_nil)) pe_int (nomark _)))))
        (pss_one (ps_set (i := 4) sc_Ltold_otherwise.nd rfl (by first | exact Or.inl rfl | exact Or.inr rfl) (pe_op op_mul_str (pv 4) (pe_op op_add pe_int (pe_cl F_Ltake hr (by rfl) pass0 (pa_cons (pv 0) (pa_cons pe_int pa_nil)))))))
        (pss_one (ps_par (i := 3) (j := 4) (by rfl) sc_Ltold_otherwise.nd rfl rfl (by decide) rfl rfl (pa_cons (pe_op o_addS (pv 3) (pe_ix ix_str (pv 4) pe_int (fun _ _ => rfl))) (pa_cons (pe_op o_addS (pe_slice sl_str (pv 4) (po_some pe_int) po_none) (pe_ix ix_str (pv 4) pe_int (fun _ _ => rfl))) pa_nil)) (by rfl)))))))))
      (pss_one (ps_ret (pe_tup (pa_cons (pv 3) (pa_cons (pv 4) pa_nil))))))), ?_⟩
    obtain ⟨hT, wh, wr, lh, lr, r0⟩ := hL
    walk_at "r"
    refine r_gTup hT rfl ?_
    walk_at "r"
    refine ⟨a, 3, c, rfl, hP, by omega, by decide, by decide, fun H1 d b1 P1 d0 d1 => ?_⟩
    obtain ⟨n, rfl⟩ := Int.eq_ofNat_of_zero_le d0
    walk_at "r"
    rw [show (1 : Int) + (n : Int) = ((n + 1 : Nat) : Int) by omega]
    refine ⟨_, rfl, by omega, by omega, for_range (lo := 0) (n := n + 1) (fun i σ H' => ∃ (h' r' : List Nat) (y z : Option V), σ = [some (.ref a), some (.ref t), y, some (.str (S h')), some (.str (S r')), z] ∧ But a H H' ∧ PotAt H' a (c + 1 + 2 * i) ∧ Wd h' ∧ Wd r' ∧ h'.length ≤ 10 + 15 * i ∧ r'.length ≤ 15 ∧ 0 < r'.length ∧ rw h' r' = rw h r)
      ⟨h, r, _, _, rfl, b1, P1.mono (by omega), wh, wr, by omega, by omega, r0, rfl⟩ ?_ ?_⟩
    · rintro i σ H2 hi ⟨h', r', y, z, rfl, b2, P2, wh', wr', lh', lr', r0', er⟩
      walk_at "r"
      refine ⟨a, 3, _, rfl, P2, by omega, by decide, by decide, fun H3 e b3 P3 e0 e1 => ?_⟩
      have b23 := b2.trans b3
      walk_at "r"
      refine r_dec (fun c1 => ?_) (fun c1 => ?_)
      · walk_at "r"
        refine r_addS (by omega) ?_
        exact ⟨_, r', _, _, rfl, b23, P3.mono (by omega), wh'.app wr', wr', by rw [List.length_append]; omega, lr', r0', (rw_longer r0').trans er⟩
      · walk_at "rs"
        refine s_cut (fun σ' H4 => (∃ (h3 r3 : List Nat), σ' = [some (.ref a), some (.ref t), some (.int (0 + i)), some (.str (S h3)), some (.str (S r3)), some (.int e)] ∧ Wd h3 ∧ Wd r3 ∧ h3.length ≤ 10 + 15 * (i + 1) ∧ r3.length ≤ 15 ∧ 0 < r3.length ∧ rw h3 r3 = rw h r) ∧ But a H H4 ∧ PotAt H4 a (c + 1 + 2 * i + 2)) ?_ fun N fin => ?_
        · rintro σ' H4 ⟨⟨h3, r3, rfl, w1, w2, w3, w4, w5, w6⟩, b4, P4⟩
          exact ⟨h3, r3, _, _, rfl, b4, P4.mono (by omega), w1, w2, w3, w4, w5, w6⟩
        · have els : tPar 3 4 (tCons (tOp rAddS (tVar 3) (tOp rIxS (tVar 4) (tC (.int 0)))) (tCons (tOp rAddS (tSl rSlS (tVar 4) (tPart (tC (.int 1))) tNoPart) (tOp rIxS (tVar 4) (tC (.int 0)))) tNil)) { nx := N, rt := Q } [some (.ref a), some (.ref t), some (.int (0 + i)), some (.str (S h')), some (.str (S r')), some (.int e)] H3 := by
            obtain ⟨x, r2, rfl⟩ : ∃ x r2, r' = x :: r2 := by
              cases r' with
              | nil => simp at r0'
              | cons x r2 => exact ⟨x, r2, rfl⟩
            rw [List.length_cons] at lr'
            walk_at "r"
            refine r_ixS (by rw [List.length_cons]; omega) (atI_nat (j := 0) rfl) ?_
            refine r_addS (by simp; omega) ?_
            walk_at "r"
            refine r_slS (by rw [List.length_cons]; omega) ?_
            rw [show (1 : Int) = ((1 : Nat) : Int) from rfl, cut_from (by rw [List.length_cons]; omega)]
            walk_at "r"
            refine r_ixS (by rw [List.length_cons]; omega) (atI_nat (j := 0) rfl) ?_
            refine r_addS (by simp; omega) ?_
            walk_at "r"
            refine ⟨_, _, rfl, ?_⟩
            have wx : Wd [x] := fun c hc => wr' c (by rw [List.mem_singleton.mp hc]; exact List.mem_cons_self)
            refine fin _ _ ⟨⟨h' ++ [x], r2 ++ [x], rfl, wh'.app wx, (fun c hc => ?_), by simp; omega, by simp; omega, by simp, rw_turn.trans er⟩, b23, P3.mono (by omega)⟩
            rcases List.mem_append.mp hc with hc | hc
            · exact wr' c (List.mem_cons_of_mem _ hc)
            · exact wx c hc
          walk_at "r"
          refine r_dec (fun c2 => ?_) (fun c2 => ?_)
          · walk_at "r"
            refine r_lnT (l := r') (by omega) ?_
            walk_at "r"
            refine r_dec (fun c3 => ?_) (fun c3 => ?_)
            · walk_at "r"
              refine ⟨a, 2, _, rfl, P3, by omega, by decide, by decide, fun H4 g b4 P4 g0 g1 => ?_⟩
              obtain ⟨k, rfl⟩ := Int.eq_ofNat_of_zero_le g0
              walk_at "r"
              rw [show (2 : Int) + (k : Int) = ((k + 2 : Nat) : Int) by omega]
              have hk : (List.replicate (k + 2) r').flatten.length = (k + 2) * r'.length := rep_len_mul _ _
              have hk2 : (k + 2) * r'.length ≤ 3 * 4 := Nat.mul_le_mul (by omega) (by omega)
              refine r_mulS (n := k + 2) (by rw [Nat.mul_comm]; omega) (by omega) ?_
              have hk3 : 0 < (k + 2) * r'.length := Nat.mul_pos (by omega) r0'
              exact fin _ _ ⟨⟨h', _, rfl, wh', wr'.rep _, by omega, by omega, by omega, (rw_often r0' (by omega)).trans er⟩, b23.trans b4, P4.mono (by omega)⟩
            · exact els
          · exact els
    · rintro σ H2 ⟨h', r', y, z, rfl, b2, P2, wh', wr', lh', lr', r0', er⟩
      walk_at "r"
      refine ⟨by show 2 ≤ sizeLine; decide, fun u hu => ?_⟩
      have hua : u ≠ a := P2.fresh hu
      refine q _ u h' r' (b2.trans (But.of (same_new hu))) ((P2.new hu).mono (by omega)) ?_ upd_same wh' wr' (by omega) (by omega) r0' er
      exact But.free b2 hua hu
def sp_Lnear (K : PySem.W.Frag) : Sp := fun vs H Q _ => ∃ (a t : Addr) (c : Int) (h r : List Nat), vs = [.ref a, .ref t] ∧ PotAt H a c ∧ c ≤ 900000 ∧ t ≠ a ∧ LossAt K H t h r ∧ h.length ≤ 10 ∧ r.length ≤ 10 ∧
  ∀ H' u h' r', But a H H' → PotAt H' a (c + 2) → u ≠ a → LossAt K H' u h' r' → Q (.ref u) H'
theorem ok_Lnear (T : Txt K mg) : Ok P w K mg base CX0 (3) "_law_near" s_Lnear ["pot", "loss"] (sp_Lnear K) := by
  obtain ⟨fd, D⟩ := T.d_Lnear
  refine ⟨⟨_, fd, T.g__law_near, D, D.bindsN (fun _ _ _ _ _ _ us hl => match us, hl with | [_, _], _ => rfl), ?_⟩⟩
  refine D.ok sc_Lnear (fun vs H Q E h => ?_) (fun cdv A outer s H vs Q E hr h => ?_)
  · obtain ⟨a, t, c, h, r, rfl, hP, hc, hta, hL, bh, br, q⟩ := h
    rfl
  · obtain ⟨a, t, c, h, r, rfl, hP, hc, hta, hL, bh, br, q⟩ := h
    have F_Lof := ok_Lof (P := P) (w := w) (K := K) (mg := mg) (base := base) T
    refine ⟨_, PSs.nox (pss_cons (ps_asg (pv 1) (pg_tup rfl (pgs_cons (pg_name (i := 4) sc_Lnear.nd rfl (by first | exact Or.inl rfl | exact Or.inr rfl)) (pgs_cons (pg_name (i := 5) sc_Lnear.nd rfl (by first | exact Or.inl rfl | exact Or.inr rfl)) pgs_nil))))
      (pss_cons (ps_set (i := 2) sc_Lnear.nd rfl (by first | exact Or.inl rfl | exact Or.inr rfl) (pe_cl F_Lof hr (by rfl) pass0 (pa_cons (pv 0) (pa_cons (pe_callTy (call_list_txt rfl) (by rfl) T.z_list (by decide +kernel) (pa_cons (pe_strS [110, 102, 115] (by rfl)) pa_nil)) pa_nil))))
      (pss_cons (ps_set (i := 3) sc_Lnear.nd rfl (by first | exact Or.inl rfl | exact Or.inr rfl) (pe_lst (pa_cons (pe_tup (pa_cons (pe_op o_addS (pv 4) (pv 2)) (pa_cons (pv 5) pa_nil))) (pa_cons (pe_tup (pa_cons (pv 4) (pa_cons (pe_op o_addS (pv 5) (pv 2)) pa_nil))) (pa_cons (pe_tup (pa_cons (pe_slice sl_str (pv 4) po_none (po_some (pe_un un_neg pe_int))) (pa_cons (pv 5) pa_nil))) (pa_cons (pe_tup (pa_cons (pe_op o_addS (pv 2) (pv 4)) (pa_cons (pv 5) pa_nil))) pa_nil))))))
      (pss_one (ps_ret (pe_cl F_Lof hr (by rfl) pass0 (pa_cons (pv 0) (pa_cons (pe_op op_cat (pv 3) (pe_lst (pa_cons (pe_tup (pa_cons (pv 4) (pa_cons (pe_revS (pv 5)) pa_nil))) pa_nil))) pa_nil)))))))), ?_⟩
    obtain ⟨hT, wh, wr, lh, lr, r0⟩ := hL
    walk_at "r"
    refine r_gTup hT rfl ?_
    walk_at "r"
    refine r_listS (l := [110, 102, 115]) (by decide) fun p0 hp0 => ?_
    walk_at "r"
    refine ⟨a, p0, _, _, rfl, hP.new hp0, by omega, SqL.of upd_same, hP.fresh hp0, by decide, by decide, fun H1 x b1 P1 hx => ?_⟩
    obtain ⟨ch, rfl, hch⟩ := fate_of hx
    have wc : Wd [ch] := fun c hc => by rw [List.mem_singleton.mp hc]; exact hch
    have b1' := (But.of (same_new hp0)).trans b1
    walk_at "r"
    refine r_addS (by simp; omega) ?_
    walk_at "r"
    refine ⟨by show 2 ≤ sizeLine; decide, fun p1 hp1 => ?_⟩
    walk_at "r"
    refine r_addS (by simp; omega) ?_
    walk_at "r"
    refine ⟨by show 2 ≤ sizeLine; decide, fun p2 hp2 => ?_⟩
    walk_at "r"
    refine r_slS (by omega) ?_
    rw [cut_dl]
    walk_at "r"
    refine ⟨by show 2 ≤ sizeLine; decide, fun p3 hp3 => ?_⟩
    walk_at "r"
    refine r_addS (by simp; omega) ?_
    walk_at "r"
    refine ⟨by show 2 ≤ sizeLine; decide, fun p4 hp4 => ?_⟩
    walk_at "r"
    refine ⟨by show 4 ≤ sizeLine; decide, fun p5 hp5 => ?_⟩
    have f1 : (upd H1 p1 (.tup [.str (S (h ++ [ch])), .str (S r)])) p1 = some (.tup [.str (S (h ++ [ch])), .str (S r)]) := upd_same
    have f2 : (upd (upd H1 p1 (.tup [.str (S (h ++ [ch])), .str (S r)])) p2 (.tup [.str (S h), .str (S (r ++ [ch]))])) p2 = some (.tup [.str (S h), .str (S (r ++ [ch]))]) := upd_same
    have s1 := same_new hp1 (o := .tup [.str (S (h ++ [ch])), .str (S r)])
    generalize upd H1 p1 (.tup [.str (S (h ++ [ch])), .str (S r)]) = G1 at *
    have s2 := same_new hp2 (o := .tup [.str (S h), .str (S (r ++ [ch]))])
    generalize upd G1 p2 (.tup [.str (S h), .str (S (r ++ [ch]))]) = G2 at *
    have f3 : (upd G2 p3 (.tup [.str (S h.dropLast), .str (S r)])) p3 = some (.tup [.str (S h.dropLast), .str (S r)]) := upd_same
    have s3 := same_new hp3 (o := .tup [.str (S h.dropLast), .str (S r)])
    generalize upd G2 p3 (.tup [.str (S h.dropLast), .str (S r)]) = G3 at *
    have f4 : (upd G3 p4 (.tup [.str (S ([ch] ++ h)), .str (S r)])) p4 = some (.tup [.str (S ([ch] ++ h)), .str (S r)]) := upd_same
    have s4 := same_new hp4 (o := .tup [.str (S ([ch] ++ h)), .str (S r)])
    generalize upd G3 p4 (.tup [.str (S ([ch] ++ h)), .str (S r)]) = G4 at *
    have f5 : (upd G4 p5 (.lst [.ref p1, .ref p2, .ref p3, .ref p4])) p5 = some (.lst [.ref p1, .ref p2, .ref p3, .ref p4]) := upd_same
    have s5 := same_new hp5 (o := .lst [.ref p1, .ref p2, .ref p3, .ref p4])
    generalize upd G4 p5 (.lst [.ref p1, .ref p2, .ref p3, .ref p4]) = G5 at *
    walk_at "r"
    refine r_revT (by omega) ?_
    walk_at "r"
    refine ⟨by show 2 ≤ sizeLine; decide, fun p6 hp6 => ?_⟩
    have f6 : (upd G5 p6 (.tup [.str (S h), .str (S r.reverse)])) p6 = some (.tup [.str (S h), .str (S r.reverse)]) := upd_same
    have s6 := same_new hp6 (o := .tup [.str (S h), .str (S r.reverse)])
    generalize upd G5 p6 (.tup [.str (S h), .str (S r.reverse)]) = G6 at *
    walk_at "r"
    refine ⟨by show 1 ≤ sizeLine; decide, fun p7 hp7 => ?_⟩
    have f7 : (upd G6 p7 (.lst [.ref p6])) p7 = some (.lst [.ref p6]) := upd_same
    have s7 := same_new hp7 (o := .lst [.ref p6])
    generalize upd G6 p7 (.lst [.ref p6]) = G7 at *
    refine r_catL (s7 _ _ (s6 _ _ f5)) f7 (by show 5 ≤ 1000000; decide) fun p8 hp8 => ?_
    have f8 : (upd G7 p8 (.lst ([.ref p1, .ref p2, .ref p3, .ref p4] ++ [.ref p6]))) p8 = some (.lst ([.ref p1, .ref p2, .ref p3, .ref p4] ++ [.ref p6])) := upd_same
    have s8 := same_new hp8 (o := .lst ([.ref p1, .ref p2, .ref p3, .ref p4] ++ [.ref p6]))
    generalize upd G7 p8 (.lst ([.ref p1, .ref p2, .ref p3, .ref p4] ++ [.ref p6])) = G8 at *
    walk_at "r"
    have t7 := s7.trans s8
    have t6 := s6.trans t7
    have t5 := s5.trans t6
    have t4 := s4.trans t5
    have t3 := s3.trans t4
    have t2 := s2.trans t3
    have t1 := s1.trans t2
    have P8 := P1.same t1
    have n1 := P1.fresh hp1
    have n2 := (P1.same s1).fresh hp2
    have n3 := (P1.same (s1.trans s2)).fresh hp3
    have n4 := (P1.same ((s1.trans s2).trans s3)).fresh hp4
    have n6 := (P1.same ((((s1.trans s2).trans s3).trans s4).trans s5)).fresh hp6
    have n8 := ((P1.same (((((s1.trans s2).trans s3).trans s4).trans s5).trans s6)).same s7).fresh hp8
    refine ⟨a, p8, _, _, rfl, P8, by omega, SqL.of f8, n8, by show 0 < 5; decide, by show 5 ≤ 1000000; decide, fun H9 y b9 P9 hy => ?_⟩
    have bb := (b1'.trans (But.of t1)).trans b9
    simp only [List.cons_append, List.nil_append, List.mem_cons, List.not_mem_nil, or_false] at hy
    rcases hy with rfl | rfl | rfl | rfl | rfl
    · exact q _ _ _ _ bb (P9.mono (by omega)) n1 ⟨SqT.of (b9 _ _ n1 (t2 _ _ f1)), wh.app wc, wr, by simp; omega, by omega, r0⟩
    · exact q _ _ _ _ bb (P9.mono (by omega)) n2 ⟨SqT.of (b9 _ _ n2 (t3 _ _ f2)), wh, wr.app wc, by omega, by simp; omega, by simp⟩
    · exact q _ _ _ _ bb (P9.mono (by omega)) n3 ⟨SqT.of (b9 _ _ n3 (t4 _ _ f3)), wh.dl, wr, by simp; omega, by omega, r0⟩
    · exact q _ _ _ _ bb (P9.mono (by omega)) n4 ⟨SqT.of (b9 _ _ n4 (t5 _ _ f4)), wc.app wh, wr, by simp; omega, by omega, r0⟩
    · exact q _ _ _ _ bb (P9.mono (by omega)) n6 ⟨SqT.of (b9 _ _ n6 (t7 _ _ f6)), wh, wr.rev, by omega, by simp; omega, by simp; omega⟩
def sp_Lright (K : PySem.W.Frag) : Sp := fun vs H Q _ => ∃ a : Addr, vs = [.ref a] ∧ PotAt H a 0 ∧ ∀ H', But a H H' → Q (.bl true) H'
theorem ok_Lright (T : Txt K mg) : Ok P w K mg base CX0 (7) "_law_right" s_Lright ["pot"] (sp_Lright K) := by
  obtain ⟨fd, D⟩ := T.d_Lright
  refine ⟨⟨_, fd, T.g__law_right, D, D.bindsN (fun _ _ _ _ _ _ us hl => match us, hl with | [_], _ => rfl), ?_⟩⟩
  refine D.ok sc_Lright (fun vs H Q E h => ?_) (fun cdv A outer s H vs Q E hr h => ?_)
  · obtain ⟨a, rfl, hP, q⟩ := h
    rfl
  · obtain ⟨a, rfl, hP, q⟩ := h
    have F_Llaw_least := ok_Llaw_least (P := P) (w := w) (K := K) (mg := mg) (base := base) T
    have F_Lrow_same := ok_Lrow_same (P := P) (w := w) (K := K) (mg := mg) (base := base) T
    have F_Lof := ok_Lof (P := P) (w := w) (K := K) (mg := mg) (base := base) T
    have F_Llaw_word_drawn := ok_Llaw_word_drawn (P := P) (w := w) (K := K) (mg := mg) (base := base) T
    have F_Ltold_otherwise := ok_Ltold_otherwise (P := P) (w := w) (K := K) (mg := mg) (base := base) T
    have F_Lnear := ok_Lnear (P := P) (w := w) (K := K) (mg := mg) (base := base) T
    have F_are_alike := ok_are_alike (P := P) (w := w) (K := K) (mg := mg) (base := base) T
    have F_Lsame := ok_Lsame (P := P) (w := w) (K := K) (mg := mg) (base := base) T 1
    have F_letters_of := ok_letters_of (P := P) (w := w) (K := K) (mg := mg) (base := base) T
    have F_Llaw_letters := ok_Llaw_letters (P := P) (w := w) (K := K) (mg := mg) (base := base) T
    have F_least := ok_least (P := P) (w := w) (K := K) (mg := mg) (base := base) T
    refine ⟨_, PSs.nox (pss_cons (ps_for PassesOwn.never rfl (pi_range1 (by rfl) T.z_range (pa_cons pe_int pa_nil)) (pg_name (i := 1) sc_Lright.nd rfl (by first | exact Or.inl rfl | exact Or.inr rfl))
        (pss_cons (ps_set (i := 2) sc_Lright.nd rfl (by first | exact Or.inl rfl | exact Or.inr rfl) (pe_tup (pa_cons (pe_cl F_Llaw_word_drawn hr (by rfl) pass0 (pa_cons (pv 0) (pa_cons pe_int pa_nil))) (pa_cons (pe_op o_addS (pe_cl F_Lof hr (by rfl) pass0 (pa_cons (pv 0) (pa_cons (pe_callTy (call_list_txt rfl) (by rfl) T.z_list (by decide +kernel) (pa_cons (pe_strS [110, 102, 115] (by rfl)) pa_nil)) pa_nil))) (pe_cl F_Llaw_word_drawn hr (by rfl) pass0 (pa_cons (pv 0) (pa_cons pe_int pa_nil)))) pa_nil))))
      (pss_cons (ps_par (i := 6) (j := 7) (by rfl) sc_Lright.nd rfl rfl (by decide) rfl rfl (pa_cons (pe_cl F_Ltold_otherwise hr (by rfl) pass0 (pa_cons (pv 0) (pa_cons (pv 2) pa_nil))) (pa_cons (pe_cl F_Lnear hr (by rfl) pass0 (pa_cons (pv 0) (pa_cons (pv 2) pa_nil))) pa_nil)) (by rfl))
      (pss_cons (ps_set (i := 3) sc_Lright.nd rfl (by first | exact Or.inl rfl | exact Or.inr rfl) (pe_cl F_Llaw_least hr (by rfl) pass0 (pa_cons (pv 2) pa_nil)))
      (pss_cons (ps_if (PW.pt (pw_or (pt_not (pt_val (pe_cl F_Lsame hr (by rfl) pass0 (pa_cons (pe_clK0 F_least hr (by rfl) pass0 (fun _ _ D => kb_least_0_loss D) (pk_cons (pv 2) pk_nil)) (pa_cons (pv 3) pa_nil))))) (pw_or (pt_not (pt_val (pe_cl F_Lsame hr (by rfl) pass0 (pa_cons (pe_cl F_least hr (by rfl) pass0 (pa_cons (pv 6) pa_nil)) (pa_cons (pv 3) pa_nil))))) (pw_or1 (pt_not (pt_val (pe_cl F_Lsame hr (by rfl) pass0 (pa_cons (pe_cl F_least hr (by rfl) pass0 (pa_cons (pv 3) pa_nil)) (pa_cons (pv 3) pa_nil)))))))))
        (pss_one (ps_ret pe_bl))
        pss_nil)
      (pss_cons (ps_if (pt_cmpR op_notBl (pe_clK0 F_are_alike hr (by rfl) pass0 (fun _ _ D => kb_are_alike_0_one_other D) (pk_cons (pv 2) (pk_cons (pv 6) pk_nil))) pe_bl (nomark _))
        (pss_one (ps_ret pe_bl))
        pss_nil)
      (pss_cons (ps_set (i := 4) sc_Lright.nd rfl (by first | exact Or.inl rfl | exact Or.inr rfl) (pe_cl F_Lrow_same hr (by rfl) pass0 (pa_cons (pv 2) (pa_cons (pv 7) pa_nil))))
      (pss_cons (ps_if (pt_not (pt_val (pe_cl F_Lsame hr (by rfl) pass0 (pa_cons (pe_tup (pa_cons (pe_cl F_are_alike hr (by rfl) pass0 (pa_cons (pv 6) (pa_cons (pv 7) pa_nil))) (pa_cons (pe_cl F_are_alike hr (by rfl) pass0 (pa_cons (pv 7) (pa_cons (pv 2) pa_nil))) pa_nil))) (pa_cons (pe_tup (pa_cons (pv 4) (pa_cons (pv 4) pa_nil))) pa_nil)))))
        (pss_one (ps_ret pe_bl))
        pss_nil)
      (pss_cons (ps_set (i := 5) sc_Lright.nd rfl (by first | exact Or.inl rfl | exact Or.inr rfl) (pe_cl F_Lof hr (by rfl) pass0 (pa_cons (pv 0) (pa_cons (pe_lst (pa_cons pe_int (pa_cons pe_int (pa_cons pe_int (pa_cons pe_int (pa_cons pe_int pa_nil)))))) pa_nil))))
      (pss_one (ps_if (pt_not (pt_val (pe_cl F_Lsame hr (by rfl) pass0 (pa_cons (pe_clK0 F_letters_of hr (by rfl) pass0 (fun _ _ D => kb_letters_of_0_many_loss D) (pk_cons (pv 5) (pk_cons (pv 6) pk_nil))) (pa_cons (pe_cl F_Llaw_letters hr (by rfl) pass0 (pa_cons (pv 2) (pa_cons (pv 5) pa_nil))) pa_nil)))))
        (pss_one (ps_ret pe_bl))
        pss_nil)))))))))))
      (pss_one (ps_ret pe_bl))), ?_⟩
    walk_at "r"
    refine ⟨_, rfl, by decide, by decide, for_range (lo := 0) (n := 4) (fun i σ H' => ∃ y1 y2 y3 y4 y5 y6 y7, σ = [some (.ref a), y1, y2, y3, y4, y5, y6, y7] ∧ But a H H' ∧ PotAt H' a (1000 * i)) ⟨_, _, _, _, _, _, _, rfl, But.refl, hP.mono (by decide)⟩ ?_ ?_⟩
    · rintro i σ G hi ⟨y1, y2, y3, y4, y5, y6, y7, rfl, b0, P0⟩
      walk_at "r"
      refine ⟨a, 4, _, rfl, P0, by omega, by decide, fun H1 h b1 P1 wh lh => ?_⟩
      walk_at "r"
      refine r_listS (l := [110, 102, 115]) (by decide) fun p0 hp0 => ?_
      walk_at "r"
      refine ⟨a, p0, _, _, rfl, P1.new hp0, by omega, SqL.of upd_same, P1.fresh hp0, by decide, by decide, fun H2 x b2 P2 hx => ?_⟩
      obtain ⟨ch, rfl, hch⟩ := fate_of hx
      have wc : Wd [ch] := fun c hc => by rw [List.mem_singleton.mp hc]; exact hch
      walk_at "r"
      refine ⟨a, 3, _, rfl, P2, by omega, by decide, fun H3 r2 b3 P3 wr2 lr2 => ?_⟩
      refine r_addS (by simp; omega) ?_
      walk_at "r"
      have b03 := ((b0.trans b1).trans ((But.of (same_new hp0)).trans b2)).trans b3
      obtain ⟨r, hr⟩ : ∃ r, r = [ch] ++ r2 := ⟨_, rfl⟩
      rw [← hr]
      have wr : Wd r := hr ▸ wc.app wr2
      have lr : r.length ≤ 4 := by rw [hr]; simp; omega
      have r0 : 0 < r.length := by rw [hr]; simp
      clear hr
      refine ⟨by show 2 ≤ sizeLine; decide, fun t ht => ?_⟩
      have hta := P3.fresh ht
      have ft : (upd H3 t (.tup [.str (S h), .str (S r)])) t = some (.tup [.str (S h), .str (S r)]) := upd_same
      have b04 := b03.trans (But.of (same_new ht (o := .tup [.str (S h), .str (S r)])))
      have P4 := P3.new ht (o := .tup [.str (S h), .str (S r)])
      generalize upd H3 t (.tup [.str (S h), .str (S r)]) = H4 at *
      have L4 : LossAt K H4 t h r := ⟨SqT.of ft, wh, wr, by omega, by omega, r0⟩
      walk_at "r"
      refine ⟨a, t, _, h, r, rfl, P4, by omega, hta, L4, by omega, by omega, fun H5 u h' r' b5 P5 hu fu wh' wr' lh' lr' r0' er => ?_⟩
      have L5 : LossAt K H5 t h r := ⟨SqT.of (b5 _ _ hta ft), L4.2⟩
      have hua : u ≠ a := by
        obtain ⟨_, _, _, z, _⟩ := P4
        exact fresh_ne hu z
      walk_at "r"
      refine ⟨a, t, _, h, r, rfl, P5, by omega, hta, L5, by omega, by omega, fun H6 v h'' r'' b6 P6 hva L6 => ?_⟩
      have Lt : LossAt K H6 t h r := ⟨SqT.of (b6 _ _ hta (b5 _ _ hta ft)), L4.2⟩
      have Lu : LossAt K H6 u h' r' := ⟨SqT.of (b6 _ _ hua fu), wh', wr', lh', lr', r0'⟩
      have b06 := (b04.trans b5).trans b6
      walk_at "r"
      refine ⟨_, _, rfl, ?_⟩
      walk_at "r"
      refine ⟨t, h, r, rfl, Lt.1, r0, by omega, by omega, fun da db H7 d xd e7 fd => ?_⟩
      obtain ⟨wda, wdb⟩ := xd.wd r0 wh wr
      obtain ⟨bda, bdb, db0⟩ := xd.bound r0
      walk_at "r"
      refine ⟨rfl, rfl, t, h, r, rfl, Lt.same e7, fun a1 b1 H8 u1 x1 e8 f1 => ?_⟩
      obtain ⟨rfl, rfl⟩ := xd.uniq rfl x1
      have sS : ∀ x ∈ [V.str (S da), V.str (S db)], Sc true x x := fun x hx => by
        simp only [List.mem_cons, List.not_mem_nil, or_false] at hx
        rcases hx with rfl | rfl <;> exact .inr (.inl ⟨_, rfl, rfl⟩)
      walk_at "r"
      refine ⟨_, _, rfl, Eqv.flat (SqT.of f1) (SqT.of (e8 _ _ fd)) (by show 2 ≤ 1000000; decide) sS, fun H9 e9 => ?_⟩
      have e79 := e8.trans e9
      walk_at "r"
      refine ⟨u, h', r', rfl, (Lu.same e7).same e79, fun a2 b2 H10 u2 x2 e10 f2 => ?_⟩
      obtain ⟨rfl, rfl⟩ := xd.uniq er.symm x2
      walk_at "r"
      refine ⟨_, _, rfl, Eqv.flat (SqT.of f2) (SqT.of (e10 _ _ (e79 _ _ fd))) (by show 2 ≤ 1000000; decide) sS, fun H11 e11 => ?_⟩
      have e7b := (e79.trans e10).trans e11
      walk_at "r"
      refine ⟨d, da, db, rfl, ⟨SqT.of (e7b _ _ fd), wda, wdb, by omega, by omega, db0⟩, fun a3 b3 H12 u3 x3 e12 f3 => ?_⟩
      obtain ⟨rfl, rfl⟩ := xd.uniq xd.row.symm x3
      walk_at "r"
      refine ⟨_, _, rfl, Eqv.flat (SqT.of f3) (SqT.of (e12 _ _ (e7b _ _ fd))) (by show 2 ≤ 1000000; decide) sS, fun H13 e13 => ?_⟩
      have e6d := e7.trans ((e7b.trans e12).trans e13)
      walk_at "r"
      refine ⟨rfl, rfl, t, u, h, r, h', r', rfl, Lt.same e6d, Lu.same e6d, fun k H14 hk e14 => ?_⟩
      obtain rfl : k = true := hk.mpr er.symm
      walk_at "r"
      refine r_nyesD rfl ?_
      have e6e := e6d.trans e14
      walk_at "r"
      refine ⟨t, v, h, r, h'', r'', rfl, Lt.same e6e, L6.same e6e, fun k2 hk2 => ?_⟩
      walk_at "r"
      refine ⟨u, v, h', r', h'', r'', rfl, Lu.same e6e, L6.same e6e, fun k3 H15 hk3 e15 => ?_⟩
      obtain rfl : k3 = k2 := by
        rw [er, ← hk2] at hk3
        cases k2 <;> cases k3 <;> simp_all
      walk_at "r"
      refine ⟨v, t, h'', r'', h, r, rfl, (L6.same e6e).same e15, (Lt.same e6e).same e15, fun k4 H16 hk4 e16 => ?_⟩
      obtain rfl : k4 = k3 := by
        rw [eq_comm (a := rw h'' r''), ← hk2] at hk4
        cases k3 <;> cases k4 <;> simp_all
      walk_at "r"
      refine ⟨by show 2 ≤ sizeLine; decide, fun w1 hw1 => ?_⟩
      have g1 : (upd H16 w1 (.tup [.bl k4, .bl k4])) w1 = some (.tup [.bl k4, .bl k4]) := upd_same
      have e17 := (e6e.trans (e15.trans e16)).trans (same_new hw1 (o := .tup [.bl k4, .bl k4]))
      generalize upd H16 w1 (.tup [.bl k4, .bl k4]) = H17 at g1 e17 ⊢
      walk_at "r"
      refine ⟨by show 2 ≤ sizeLine; decide, fun w2 hw2 => ?_⟩
      walk_at "r"
      refine ⟨_, _, rfl, Eqv.flat (SqT.of (same_new hw2 _ _ g1)) (SqT.of upd_same) (by show 2 ≤ 1000000; decide) (fun x hx => ?_), fun H18 e18 => ?_⟩
      · simp only [List.mem_cons, List.not_mem_nil, or_false] at hx
        rcases hx with rfl | rfl <;> exact .inr (.inr (.inr ⟨rfl, _, rfl, rfl⟩))
      have e6z := (e17.trans (same_new hw2 (o := .tup [.bl k4, .bl k4]))).trans e18
      have P18 := P6.same e6z
      walk_at "r"
      refine ⟨by show 5 ≤ sizeLine; decide, fun w3 hw3 => ?_⟩
      have g3 : (upd H18 w3 (.lst [.int 0, .int 1, .int 7, .int 30, .int 200])) w3 = some (.lst [.int 0, .int 1, .int 7, .int 30, .int 200]) := upd_same
      have s19 := same_new hw3 (o := .lst [.int 0, .int 1, .int 7, .int 30, .int 200])
      have n3 := P18.fresh hw3
      generalize upd H18 w3 (.lst [.int 0, .int 1, .int 7, .int 30, .int 200]) = H19 at g3 s19 ⊢
      walk_at "r"
      refine ⟨a, w3, _, _, rfl, P18.same s19, by omega, SqL.of g3, n3, by decide, by decide, fun H20 x b20 P20 hx => ?_⟩
      obtain ⟨m, rfl, hm⟩ : ∃ m : Nat, x = .int (m : Int) ∧ m ≤ 200 := by
        simp only [List.mem_cons, List.not_mem_nil, or_false] at hx
        rcases hx with rfl | rfl | rfl | rfl | rfl
        · exact ⟨0, rfl, by decide⟩
        · exact ⟨1, rfl, by decide⟩
        · exact ⟨7, rfl, by decide⟩
        · exact ⟨30, rfl, by decide⟩
        · exact ⟨200, rfl, by decide⟩
      have e619 := e6z.trans s19
      have Lt20 : LossAt K H20 t h r := ⟨b20.sqt hta (Same.sqt e619 Lt.1), Lt.2⟩
      have Lu20 : LossAt K H20 u h' r' := ⟨b20.sqt hua (Same.sqt e619 Lu.1), Lu.2⟩
      walk_at "r"
      refine ⟨rfl, rfl, u, h', r', m, rfl, Lu20, hm, fun H21 e21 => ?_⟩
      walk_at "r"
      refine ⟨t, h, r, m, rfl, Same.sqt e21 Lt20.1, r0, by omega, by omega, by omega, ?_⟩
      rw [er]
      walk_at "r"
      refine ⟨_, _, rfl, Eqv.str, fun H22 e22 => ?_⟩
      walk_at "r"
      exact ⟨_, _, _, _, _, _, _, rfl, ((b06.trans (But.of e619)).trans b20).trans (But.of (e21.trans e22)), (P20.same (e21.trans e22)).mono (by omega)⟩
    · rintro σ G ⟨y1, y2, y3, y4, y5, y6, y7, rfl, b0, P0⟩
      walk_at "r"
      exact q _ b0
def sp_law (K : PySem.W.Frag) : Sp := fun vs H Q _ => ∃ (a : Addr) (ns : List Int), vs = [.ref a] ∧ SqL K H a (ns.map V.int) ∧ ns.length ≤ 63 ∧ ∀ H', Q (.bl true) H'
theorem ok_law (T : Txt K mg) : Ok P w K mg base CX0 (8) "law" s_law ["script"] (sp_law K) := by
  obtain ⟨fd, D⟩ := T.d_law
  refine ⟨⟨_, fd, T.g_law, D, D.bindsN (fun _ _ _ _ _ _ us hl => match us, hl with | [_], _ => rfl), ?_⟩⟩
  refine D.ok sc_law (fun vs H Q E h => ?_) (fun cdv A outer s H vs Q E hr h => ?_)
  · obtain ⟨a, ns, rfl, hS, hlen, q⟩ := h
    rfl
  · obtain ⟨a, ns, rfl, hS, hlen, q⟩ := h
    have F_Lright := ok_Lright (P := P) (w := w) (K := K) (mg := mg) (base := base) T
    have F_Lpot := ok_Lpot (P := P) (w := w) (K := K) (mg := mg) (base := base) T
    have F_Lcells := ok_Lcells (P := P) (w := w) (K := K) (mg := mg) (base := base) T
    refine ⟨_, PSs.nox (pss_one (ps_ret (pe_callB (cr_all rfl) (by rfl) T.z_all (by decide +kernel) (pa_cons (pe_lc (own := [("place", 1)]) (g := gName 1) (tt := tYes) rfl sc_law.nd (pi_list (pe_cl F_Lcells hr (by rfl) pass0 (pa_cons (pv 0) (pa_cons pe_int pa_nil)))) (blkOk_by (N := ["script", "place"]) (sc := defScope s_law) (by decide +kernel)) (fun _ _ _ _ _ => (pg_name (i := 1) sc_law.nd rfl (by first | exact Or.inl rfl | exact Or.inr rfl))) (fun _ _ _ _ _ => pts_nil) (fun _ _ _ _ _ => (pe_cl F_Lright hr (by rfl) pass0 (pa_cons (pe_cl F_Lpot hr (by rfl) pass0 (pa_cons (pv 0) (pa_cons (pv 1) pa_nil))) pa_nil)))) pa_nil)))), ?_⟩
    walk_at "r"
    refine ⟨a, _, 2, rfl, hS, by decide, by decide, fun H1 p n e1 hn hp => ?_⟩
    refine ⟨p, rfl, ⟨_, SqL.of hp⟩, fun D hD => ?_⟩
    have hpD : p ≠ D := ne_of_none hp hD
    refine lc_acc (n := n) (fun i G' => Same H1 G') (fun _ v => v = .bl true) (by omega) (same_new hD) (fun i G' acc acc' e h3 => Same.mut e hD) (fun i G' hi e => ?_) (fun G' e => ?_) ?_ ?_
    · exact ⟨_, .int i, SqL.of (e _ _ hp), by rw [List.getElem?_map, List.getElem?_range hi]; rfl⟩
    · exact ⟨_, SqL.of (e _ _ hp), by rw [List.length_map, List.length_range]; exact Nat.le_refl _⟩
    · rintro i v G' G2 acc hi e hacc ⟨rfl, f⟩ R hR
      have ev := f _ (SqL.of (e _ _ hp))
      rw [List.getElem?_map, List.getElem?_range hi] at ev
      obtain rfl : V.int (i : Int) = v := Option.some.inj ev
      walk_at "r"
      refine ⟨rfl, ?_⟩
      walk_at "r"
      refine ⟨a, ns, i, rfl, (e1.trans e).seq hS, by omega, fun G3 pt e3 hpt P3 => ?_⟩
      walk_at "r"
      refine ⟨pt, rfl, P3, fun G4 e4 => ?_⟩
      have hpt' : pt ≠ D := (ne_of_none hacc hpt).symm
      have hx : Same G2 G4 := fun b o hb => e4 b o (fun z => by rw [z, hpt] at hb; cases hb) (e3 b o hb)
      exact hR _ _ (hx _ _ hacc) rfl (e.trans hx)
    · rintro G' acc hl hv hacc e
      walk_at "r"
      rw [all_true hl hv] at hacc
      exact r_allT hacc (q _)

end
/-! ### the head -/
def d_is_made_of_fates : He.DefD := ⟨("is_made_of_fates", none), "is_made_of_fates", "is_made_of_fates", defArgs s_is_made_of_fates, defBody s_is_made_of_fates, defScope s_is_made_of_fates, [], []⟩
def d_is_long_loss : He.DefD := ⟨("is_long_loss", none), "is_long_loss", "is_long_loss", defArgs s_is_long_loss, defBody s_is_long_loss, defScope s_is_long_loss, [], []⟩
def d_is_loss : He.DefD := ⟨("is_loss", none), "is_loss", "is_loss", defArgs s_is_loss, defBody s_is_loss, defScope s_is_loss, [], []⟩
def d_is_whole : He.DefD := ⟨("is_whole", none), "is_whole", "is_whole", defArgs s_is_whole, defBody s_is_whole, defScope s_is_whole, [], []⟩
def d_need_loss : He.DefD := ⟨("need_loss", none), "need_loss", "need_loss", defArgs s_need_loss, defBody s_need_loss, defScope s_need_loss, [], []⟩
def d_need_number : He.DefD := ⟨("need_number", none), "need_number", "need_number", defArgs s_need_number, defBody s_need_number, defScope s_need_number, [], []⟩
def d_shortest_ring : He.DefD := ⟨("shortest_ring", none), "shortest_ring", "shortest_ring", defArgs s_shortest_ring, defBody s_shortest_ring, defScope s_shortest_ring, [], []⟩
def d_least_form : He.DefD := ⟨("least_form", none), "least_form", "least_form", defArgs s_least_form, defBody s_least_form, defScope s_least_form, [], []⟩
def d_first_letters : He.DefD := ⟨("first_letters", none), "first_letters", "first_letters", defArgs s_first_letters, defBody s_first_letters, defScope s_first_letters, [], []⟩
def d_least : He.DefD := ⟨("least", none), "least", "least", defArgs s_least, defBody s_least, defScope s_least, [], []⟩
def d_are_alike : He.DefD := ⟨("are_alike", none), "are_alike", "are_alike", defArgs s_are_alike, defBody s_are_alike, defScope s_are_alike, [], []⟩
def d_letters_of : He.DefD := ⟨("letters_of", none), "letters_of", "letters_of", defArgs s_letters_of, defBody s_letters_of, defScope s_letters_of, [], []⟩
def d_Lpot : He.DefD := ⟨("_law_pot", none), "_law_pot", "_law_pot", defArgs s_Lpot, defBody s_Lpot, defScope s_Lpot, [], []⟩
def d_Ltake : He.DefD := ⟨("_law_take", none), "_law_take", "_law_take", defArgs s_Ltake, defBody s_Ltake, defScope s_Ltake, [], []⟩
def d_Lof : He.DefD := ⟨("_law_of", none), "_law_of", "_law_of", defArgs s_Lof, defBody s_Lof, defScope s_Lof, [], []⟩
def d_Lcells : He.DefD := ⟨("_law_cells", none), "_law_cells", "_law_cells", defArgs s_Lcells, defBody s_Lcells, defScope s_Lcells, [], []⟩
def d_Lsame : He.DefD := ⟨("_law_same", none), "_law_same", "_law_same", defArgs s_Lsame, defBody s_Lsame, defScope s_Lsame, [], []⟩
def d_Llaw_letters : He.DefD := ⟨("_law_law_letters", none), "_law_law_letters", "_law_law_letters", defArgs s_Llaw_letters, defBody s_Llaw_letters, defScope s_Llaw_letters, [], []⟩
def d_Llaw_least : He.DefD := ⟨("_law_law_least", none), "_law_law_least", "_law_law_least", defArgs s_Llaw_least, defBody s_Llaw_least, defScope s_Llaw_least, [], []⟩
def d_Llaw_word_drawn : He.DefD := ⟨("_law_law_word_drawn", none), "_law_law_word_drawn", "_law_law_word_drawn", defArgs s_Llaw_word_drawn, defBody s_Llaw_word_drawn, defScope s_Llaw_word_drawn, [], []⟩
def d_Lrow_letters : He.DefD := ⟨("_law_row_letters", none), "_law_row_letters", "_law_row_letters", defArgs s_Lrow_letters, defBody s_Lrow_letters, defScope s_Lrow_letters, [], []⟩
def d_Lrow_same : He.DefD := ⟨("_law_row_same", none), "_law_row_same", "_law_row_same", defArgs s_Lrow_same, defBody s_Lrow_same, defScope s_Lrow_same, [], []⟩
def d_Ltold_otherwise : He.DefD := ⟨("_law_told_otherwise", none), "_law_told_otherwise", "_law_told_otherwise", defArgs s_Ltold_otherwise, defBody s_Ltold_otherwise, defScope s_Ltold_otherwise, [], []⟩
def d_Lnear : He.DefD := ⟨("_law_near", none), "_law_near", "_law_near", defArgs s_Lnear, defBody s_Lnear, defScope s_Lnear, [], []⟩
def d_Lright : He.DefD := ⟨("_law_right", none), "_law_right", "_law_right", defArgs s_Lright, defBody s_Lright, defScope s_Lright, [], []⟩
def d_law : He.DefD := ⟨("law", none), "law", "law", defArgs s_law, defBody s_law, defScope s_law, [], []⟩
def fn : List He.DefD := [d_is_made_of_fates, d_is_long_loss, d_is_loss, d_is_whole, d_need_loss, d_need_number, d_shortest_ring, d_least_form, d_first_letters, d_least, d_are_alike, d_letters_of, d_Lpot, d_Ltake, d_Lof, d_Lcells, d_Lsame, d_Llaw_letters, d_Llaw_least, d_Llaw_word_drawn, d_Lrow_letters, d_Lrow_same, d_Ltold_otherwise, d_Lnear, d_Lright, d_law]
def fa : List He.Fa := [.glo "is_made_of_fates", .glo "is_long_loss", .glo "is_loss", .glo "is_whole", .glo "need_loss", .glo "need_number", .glo "shortest_ring", .glo "least_form", .glo "first_letters", .glo "least", .glo "are_alike", .glo "letters_of", .glo "_law_pot", .glo "_law_take", .glo "_law_of", .glo "_law_cells", .glo "_law_same", .glo "_law_law_letters", .glo "_law_law_least", .glo "_law_law_word_drawn", .glo "_law_row_letters", .glo "_law_row_same", .glo "_law_told_otherwise", .glo "_law_near", .glo "_law_right", .glo "law", .str "FATES" "nfs", .int "MOST_FATES" 200, .free "abs", .free "all", .free "bool", .free "int", .free "isinstance", .free "len", .free "list", .free "max", .free "min", .free "range", .free "str", .free "sum", .free "tuple", .free "type", .free "zip"]
def ex (K : PySem.W.Frag) : Bool := true
abbrev R : PySem.W.OpenRow := PySem.W.OpenLaw.row PySem.Challenge.rw_twofarplayers_k04_whole_least_losses_and
abbrev hk : PySem.W.Hook := Tf.hookX 4 fa fn ex
def ob (s : PySem.W.SharedT) : Tf.AlX := Tf.obsX 4 fa fn ex (HandSHeadRun.getT s)
theorem ob_eq (s : PySem.W.SharedT) : ob s = hk.obs s.abs := Tf.obsX_eq (HandSHeadRun.getT_eq s)
def loose0 : List Str := ["PlayError", "BadLoss", "BadNumber", "FATES", "MOST_FATES", "is_whole", "is_made_of_fates", "is_long_loss", "is_loss", "need_loss", "need_number", "shortest_ring", "least_form", "first_letters", "least", "are_alike", "letters_of", "_law_pot", "_law_take", "_law_of", "_law_cells", "_law_law_letters", "_law_law_least", "_law_law_word_drawn", "_law_row_letters", "_law_row_same", "_law_same", "_law_told_otherwise", "_law_near", "_law_right"]
def loose : List Str := loose0
theorem run (w : World) : HandSHeadRun.RunEq R (PySem.W.view R.prog [34]) hk ob 20000 loose w := by
  intro os
  kernel_rfl
theorem txt {K : PySem.W.Frag} {h : Heap} {mg : Str → Option Value} (X : K.In h) (G : h.Ns mainGlobals mg) (c : He.SaysD fa fn K) (cx : ex K = true) : Txt K mg := by
  exact ⟨c.def_ 0 (d := d_is_made_of_fates) rfl,
    He.glo_ok X G (c.fact 0 (f := .glo "is_made_of_fates") rfl),
    c.def_ 1 (d := d_is_long_loss) rfl,
    He.glo_ok X G (c.fact 1 (f := .glo "is_long_loss") rfl),
    c.def_ 2 (d := d_is_loss) rfl,
    He.glo_ok X G (c.fact 2 (f := .glo "is_loss") rfl),
    c.def_ 3 (d := d_is_whole) rfl,
    He.glo_ok X G (c.fact 3 (f := .glo "is_whole") rfl),
    c.def_ 4 (d := d_need_loss) rfl,
    He.glo_ok X G (c.fact 4 (f := .glo "need_loss") rfl),
    c.def_ 5 (d := d_need_number) rfl,
    He.glo_ok X G (c.fact 5 (f := .glo "need_number") rfl),
    c.def_ 6 (d := d_shortest_ring) rfl,
    He.glo_ok X G (c.fact 6 (f := .glo "shortest_ring") rfl),
    c.def_ 7 (d := d_least_form) rfl,
    He.glo_ok X G (c.fact 7 (f := .glo "least_form") rfl),
    c.def_ 8 (d := d_first_letters) rfl,
    He.glo_ok X G (c.fact 8 (f := .glo "first_letters") rfl),
    c.def_ 9 (d := d_least) rfl,
    He.glo_ok X G (c.fact 9 (f := .glo "least") rfl),
    c.def_ 10 (d := d_are_alike) rfl,
    He.glo_ok X G (c.fact 10 (f := .glo "are_alike") rfl),
    c.def_ 11 (d := d_letters_of) rfl,
    He.glo_ok X G (c.fact 11 (f := .glo "letters_of") rfl),
    c.def_ 12 (d := d_Lpot) rfl,
    He.glo_ok X G (c.fact 12 (f := .glo "_law_pot") rfl),
    c.def_ 13 (d := d_Ltake) rfl,
    He.glo_ok X G (c.fact 13 (f := .glo "_law_take") rfl),
    c.def_ 14 (d := d_Lof) rfl,
    He.glo_ok X G (c.fact 14 (f := .glo "_law_of") rfl),
    c.def_ 15 (d := d_Lcells) rfl,
    He.glo_ok X G (c.fact 15 (f := .glo "_law_cells") rfl),
    c.def_ 16 (d := d_Lsame) rfl,
    He.glo_ok X G (c.fact 16 (f := .glo "_law_same") rfl),
    c.def_ 17 (d := d_Llaw_letters) rfl,
    He.glo_ok X G (c.fact 17 (f := .glo "_law_law_letters") rfl),
    c.def_ 18 (d := d_Llaw_least) rfl,
    He.glo_ok X G (c.fact 18 (f := .glo "_law_law_least") rfl),
    c.def_ 19 (d := d_Llaw_word_drawn) rfl,
    He.glo_ok X G (c.fact 19 (f := .glo "_law_law_word_drawn") rfl),
    c.def_ 20 (d := d_Lrow_letters) rfl,
    He.glo_ok X G (c.fact 20 (f := .glo "_law_row_letters") rfl),
    c.def_ 21 (d := d_Lrow_same) rfl,
    He.glo_ok X G (c.fact 21 (f := .glo "_law_row_same") rfl),
    c.def_ 22 (d := d_Ltold_otherwise) rfl,
    He.glo_ok X G (c.fact 22 (f := .glo "_law_told_otherwise") rfl),
    c.def_ 23 (d := d_Lnear) rfl,
    He.glo_ok X G (c.fact 23 (f := .glo "_law_near") rfl),
    c.def_ 24 (d := d_Lright) rfl,
    He.glo_ok X G (c.fact 24 (f := .glo "_law_right") rfl),
    c.def_ 25 (d := d_law) rfl,
    He.glo_ok X G (c.fact 25 (f := .glo "law") rfl),
    He.str_ok X G (c.fact 26 (f := .str "FATES" "nfs") rfl),
    He.int_ok X G (c.fact 27 (f := .int "MOST_FATES" 200) rfl),
    He.free_ok X G (c.fact 28 (f := .free "abs") rfl),
    He.free_ok X G (c.fact 29 (f := .free "all") rfl),
    He.free_ok X G (c.fact 30 (f := .free "bool") rfl),
    He.free_ok X G (c.fact 31 (f := .free "int") rfl),
    He.free_ok X G (c.fact 32 (f := .free "isinstance") rfl),
    He.free_ok X G (c.fact 33 (f := .free "len") rfl),
    He.free_ok X G (c.fact 34 (f := .free "list") rfl),
    He.free_ok X G (c.fact 35 (f := .free "max") rfl),
    He.free_ok X G (c.fact 36 (f := .free "min") rfl),
    He.free_ok X G (c.fact 37 (f := .free "range") rfl),
    He.free_ok X G (c.fact 38 (f := .free "str") rfl),
    He.free_ok X G (c.fact 39 (f := .free "sum") rfl),
    He.free_ok X G (c.fact 40 (f := .free "tuple") rfl),
    He.free_ok X G (c.fact 41 (f := .free "type") rfl),
    He.free_ok X G (c.fact 42 (f := .free "zip") rfl)⟩
theorem facts {P : Program} {w : World} {K : PySem.W.Frag} {h : Heap} {mg : Str → Option Value} {f : Addr} (X : K.In h) (G : h.Ns mainGlobals mg) (hfa : mg ("law" : Str) = some (.ref f)) (c : He.SaysD fa fn K) (cx : ex K = true) :
    ∃ fd : FuncData, (∀ (s : Shared) (v : Value), BindsTo s fd ⟨[v], []⟩ [("script", v)]) ∧ ∀ base : Heap, K.In base → base.Ns mainGlobals mg → FnOk P w K mg base CX0 8 f fd ["script"] (sp_law K) := by
  have T := txt X G c cx
  obtain ⟨fd, D⟩ := T.d_law
  have e := hfa.symm.trans T.g_law
  cases e
  have b := FunD.bindsA (ps := ["script"]) D fun _ _ _ _ _ _ us hl => match us, hl with | [_], _ => rfl
  exact ⟨fd, fun s v => b s [v] rfl, fun base _ _ => (ok_law T).at T.g_law D⟩
end K04
open PySem PySem.W PySem.Calls PyProof.Rows
theorem PySem.Challenge.cw_twofarplayers_k04_whole_least_losses_and_holds : PySem.Challenge.rw_twofarplayers_k04_whole_least_losses_and.Holds := by
  w_on; o_law
  refine HandSHeadRun.head_any (r := OpenLaw.row PySem.Challenge.rw_twofarplayers_k04_whole_least_losses_and) (q := view (OpenLaw.row PySem.Challenge.rw_twofarplayers_k04_whole_least_losses_and).prog [34]) (H := K04.hk) (ob := K04.ob) (M := 20000) (loose := K04.loose) (d := HandSHeadRun.topDef (OpenLaw.row PySem.Challenge.rw_twofarplayers_k04_whole_least_losses_and).prog 34) (kwd := []) K04.ob_eq
    (by kernel_rfl) (fun s => by kernel_rfl) K04.run (by kernel_rfl) (by kernel_rfl) (by kernel_rfl) (by rfl) (by first | assumption | decide +kernel) (by decide +kernel) ⟨rfl, rfl, rfl, rfl, rfl, by decide +kernel⟩ ?hw ?hc
  case hw => w_witness2
  case hc =>
    refine L2.walk_ofE (l := PySem.Challenge.rw_twofarplayers_k04_whole_least_losses_and) (n := 63) (k := 8) (x := "script") (CX := L2.CX0) rfl (by decide) (by kernel_rfl) ⟨rfl, by decide, by decide⟩ ?F (fun _ _ _ _ z => z)
    intro w mg fa h Y G hmg0
    obtain ⟨K, KX, c, cx⟩ := Y
    have hmg : mg ("law" : PySem.Str) = some (.ref fa) := by
      have e : (HandSHeadRun.topDef (OpenLaw.row PySem.Challenge.rw_twofarplayers_k04_whole_least_losses_and).prog 34).name = ("law" : PySem.Str) := by kernel_rfl
      rw [← e]
      exact hmg0
    obtain ⟨fd, hb, hF⟩ := K04.facts (P := (PySem.Challenge.rw_twofarplayers_k04_whole_least_losses_and).prog) (w := w) KX G hmg c cx
    exact ⟨K, fd, K04.sp_law K, KX, hb, fun H a ns hl _ hS => ⟨a, ns, rfl, hS, hl, fun _ => rfl⟩, hF⟩
