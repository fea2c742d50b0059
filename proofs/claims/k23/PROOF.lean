import PyProof.Rows.All
import Wide.All
import OpenK.AllK
import Wide.FinOn
import HandS.ForMost
import HandS.Wide
import HandS.IsInst
import HandS.Defaults
import HandS.Zip
import HandS.Conv
import HandS.More
import HandS.Flow
import HandS.Evl
import HandS.Replace
import HandS.Codes
import HandS.Style
import KE.KRevSl
import HandS.HeadHook1
import HandS.HeadHook2
import HandS.Head2
import HandS.HeadEnd
import PyProof.ListStr
import HandS.Exc
import HandS.ExcInit
import HandS.ExcField
import HandS.ExcIs
import HandS.ExcValue
import HandS.ExcOwn
import HandS.Lambda
import HandS.EndTab
import HandS.HeadWalk
import HandS.HeadHook4
import HandS.TryOnly
import KE.KExcIs
import PyProof.ReprRoads
import HandS.RaiseMore
import HandS.TupAny
import PyProof.WalkInts
import HandS.HeadHook3
import HandS.Deep
import PyProof.StrWalks
import KE.GoesEnum
import KE.GoesEnumKw
import KE.GoesNew
import HandS.DictComp
import HandS.SortKw
import HandS.Walk
import HandS.Gcd
import HandS.TupMul
import KE.KDictZip
import HandS.Star
import HandS.Keys
import KE.SortKeyHeap
import KE.KDictCopyH
import HandS.TupLen
import HandS.RevRange
import PyProof.CollectStr
import PySem.Challenge.RW_twofarplayers_k23_whole_least_rounds_by
set_option Elab.async false
set_option linter.all false
set_option maxRecDepth 100000
set_option maxHeartbeats 2000000
/-! rules of my own, and short words, for the laws of Twofarplayers -/
namespace Tf
open PySem PySem.Spec PyProof.Rows L2

/-! ### more rules -/
section
variable {X : Cx}
/-- ** of a great base -/
def CPowW (i j : Int) : Prop := 0 ≤ j ∧ (Builtin.Int.intBits i : Int) * j ≤ 2 ^ 27
theorem op_powW : OpR X (binaryOp .Pow) (rI CPowW fun i j => .int (i ^ j.toNat)) := opI fun _ _ _ _ _ _ _ hc q => pow_int hc.1 hc.2 q
def rMulS : R2 := fun x y H Q => ∃ z n, x = .str z ∧ y = .int n ∧ MulOk z n ∧ Q (.str (Txt.mul z n)) H
theorem op_mul_str : OpR X (binaryOp .Mult) rMulS := by
  intro pins s σ H x y v u Q I rx ry h
  obtain ⟨z, n, rfl, rfl, ok, q⟩ := h
  obtain ⟨t, rfl⟩ := rx
  obtain ⟨t', rfl⟩ := ry
  exact SB.mul ok fun t' k => ⟨.str _, H, I.tok _, ⟨_, rfl⟩, q⟩
/-- the signs of a text, a list -/
def signsV (z : Str) : List V := z.cps.toList.map fun c => V.str ⟨#[c]⟩
theorem vals_signs {z : Str} {acc : Array Value} (h : ItemsOf (SignAt z) acc z.cps.size) : Vals (signsV z) acc.toList := by
  have key : ∀ (cs : List Nat) (us : List Value), us.length = cs.length → (∀ (j : Nat) (v : Value), us[j]? = some v → ∃ c u, cs[j]? = some c ∧ v = .str ⟨#[c]⟩ u) → Vals (cs.map fun c => V.str ⟨#[c]⟩) us := by
    intro cs
    induction cs with
    | nil =>
      intro us hl _
      cases us with
      | nil => exact .nil
      | cons _ _ => cases hl
    | cons c cs ih =>
      intro us hl hv
      cases us with
      | nil => cases hl
      | cons u us =>
        obtain ⟨c', t, e1, e2⟩ := hv 0 u rfl
        have e3 : c = c' := Option.some.inj e1
        subst e3
        exact .cons ⟨t, e2⟩ (ih us (Nat.succ.inj hl) fun j v e => hv (j + 1) v e)
  refine key z.cps.toList acc.toList (by simpa using h.1) fun j v e => ?_
  obtain ⟨c, u, e1, e2⟩ := h.2 j v (by simpa using e)
  exact ⟨c, u, by simpa using e1, e2⟩
def rListStr : List V → Hp → VK → Prop := fun xs H Q => ∃ z, xs = [.str z] ∧ z.length ≤ sizeLine ∧ ∀ l, H l = none → Q (.ref l) (upd H l (.lst (signsV z)))
theorem call_list_txt (hc : X.calm = true) : CallR X (.type "list") rListStr := by
  intro pins s σ H xs us Q I r h
  obtain ⟨z, rfl, hz, q⟩ := h
  obtain ⟨u, rfl, t, rfl⟩ := vals1 r
  refine call_list_str (I.ok.hd hc) z t (hn := hz) fun h' tk acc' c' kp e hacc => ?_
  have r' := vals_signs hacc
  have hlen := r'.length
  refine ⟨.ref s.heap.objs.size, _, I.laid (t' := tk) kp (Nat.le_refl _) (show ObjOk X.prog X.w _ h' _ (.lst (signsV z)) from ⟨?_, acc'.toList, c', r', by simpa using e⟩), rfl, q _ (I.hok.fresh (Nat.le_refl _))⟩
  rw [hlen]
  have := hacc.1
  simp only [Array.length_toList]
  rw [this]
  exact hz
end
/-! ### calls by keywords alone -/
section
variable {X : Cx} {CX : CXT} {k n : Nat} {f : Addr} {fd : FuncData} {ps ks : List Str} {sp : Sp} {E : XK} {x : Str} {p pos : Pos} {kws : List Keyword} {tk : TA} {g : List Value → List Value → List Value} {gV : List V → List V → List V}
theorem pe_callN0 (F : FnOk X.prog X.w X.K X.mg X.base CX k f fd ps sp) (hr : Room k X.A) (hg : Gl X x) (hm : X.mg x = some (.ref f)) (hk : PySem.W.keepIn X.K (.ref f) = true) (hb : KBn X.K fd ps 0 ks g gV) (hx : Passes CX X E)
    (hkw : PK X kws tk) (hall : (backToKw pos (keywordEach kws X.env)).all (·.1.isSome) = true := by rfl) (hks : (backToKw pos (keywordEach kws X.env)).filterMap (·.1) = ks := by rfl)
    (hdb : (x == ("__debug__" : Str)) = false := by decide)
    (hpl : ((backTo pos (starEach [] X.env)).any (·.1) || (backToKw pos (keywordEach kws X.env)).any (·.1.isNone)) = false := by rfl) :
    PE X (.Call (.Name x p) [] kws pos) (tCallN 0 ks.length sp gV E tNil tk) := by
  refine ⟨fun pins s σ H Q I h => ?_⟩
  refine wpAny_Call_Name_kw (ld_glob I hg hm ?_ hdb)
  refine PySem.W.callWith_KW0 (h₀ := X.base) I.ok.mod.kin hk hall ?_ hpl
  refine thn (hkw.run pos pins s σ H _ I h) fun ws s2 ⟨zs, H2, I2, rz, l1, l2, q2⟩ => ⟨I2.kIn, ?_⟩
  rw [hks]
  exact run_fnN F hr hb hx I2 (us := []) (vs := []) .nil rz rfl l2 q2
end
section
variable {K : PySem.W.Frag} {x qual : Str} {params : Arguments} {body : List Stmt} {scope : Scope} {f : Addr} {fd : FuncData} {ps : List Str}
theorem kbN (F : FunD K x qual params body scope [] [] f fd) (n : Nat) (ks : List Str) (g : {α : Type} → List α → List α → List α)
    (hrel : ∀ {vs zs : List V} {us ws : List Value}, Vals vs us → Vals zs ws → Vals (g vs zs) (g us ws))
    (h : ∀ (kV doc pm : Value) (an : Option Addr) (cdv ct : Value) (us ws : List Value), us.length = n → ws.length = ks.length → bindArgs (PySem.W.fnOf x qual params body scope .none kV doc pm an cdv ct) ⟨us, ks.zip ws⟩ = pure (ps.zip (g us ws))) :
    KBn K fd ps n ks (fun us ws => g us ws) (fun vs zs => g vs zs) := by
  obtain ⟨oc, od, dV, kV, doc, pm, an, cdv, ct, osl, rfl, lk, hcd, hD, hK⟩ := F.ex
  rcases hD with ⟨_, rfl⟩ | ⟨e, _⟩
  · exact ⟨fun s us ws X l1 l2 => .of_eq (h kV doc pm an cdv ct us ws l1 l2), fun r1 r2 => hrel r1 r2⟩
  · exact absurd rfl e
end

/-! ### a def that is there, and its promise -/
abbrev FnP (K : PySem.W.Frag) (x : Str) (st : Stmt) (f : Addr) (fd : FuncData) : Prop := FunD K x x (defArgs st) (defBody st) (defScope st) [] [] f fd
/-- where the def stands, how it is bound, and what it promises -/
structure Ok (P : Program) (w : World) (K : PySem.W.Frag) (mg : Str → Option Value) (base : Heap) (CX : CXT) (k : Nat) (x : Str) (st : Stmt) (ps : List Str) (sp : Sp) : Prop where
  ex : ∃ f fd, mg x = some (.ref f) ∧ FnP K x st f fd ∧ Binds K fd ps [] ∧ FnOk P w K mg base CX k f fd ps sp
section
variable {X : Cx} {CX : CXT} {k j n : Nat} {st : Stmt} {ps ks : List Str} {sp : Sp} {E : XK} {x : Str} {p pos : Pos} {e : Expr} {es : List Expr} {kws : List Keyword} {t tk : TA} {g : {α : Type} → List α → List α → List α}
theorem pe_cl (F : Ok X.prog X.w X.K X.mg X.base CX k x st ps sp) (hr : Room j X.A) (hg : Gl X x) (hx : Passes CX X E) (ha : PA X (e :: es) t) (hj : k ≤ j := by decide)
    (hdb : (x == ("__debug__" : Str)) = false := by decide) (he : starEach (e :: es) X.env = (false, eval e X.env) :: starEach es X.env := by rfl) (hpl : ((backTo pos (starEach (e :: es) X.env)).any (·.1) || (backToKw pos (keywordEach [] X.env)).any (·.1.isNone)) = false := by rfl) :
    PE X (.Call (.Name x p) (e :: es) [] pos) (tCall sp [] E t) := by
  obtain ⟨f, fd, g, D, b, F⟩ := F.ex
  exact pe_call F (hr.mono hj) hg g D.kp b .nil hx ha hdb he (by
    have h : ((backTo pos (starEach (e :: es) X.env)).any (·.1)) = false := (Bool.or_eq_false_iff.mp hpl).1
    rw [he] at h
    unfold backTo at h ⊢
    simpa using h)
theorem pe_clK0 (F : Ok X.prog X.w X.K X.mg X.base CX k x st ps sp) (hr : Room j X.A) (hg : Gl X x) (hx : Passes CX X E) (hb : ∀ f fd, FnP X.K x st f fd → KBn X.K fd ps 0 ks (fun us ws => g us ws) (fun us ws => g us ws)) (hkw : PK X kws tk) (hj : k ≤ j := by decide)
    (hall : (backToKw pos (keywordEach kws X.env)).all (·.1.isSome) = true := by rfl) (hks : (backToKw pos (keywordEach kws X.env)).filterMap (·.1) = ks := by rfl)
    (hdb : (x == ("__debug__" : Str)) = false := by decide)
    (hpl : ((backTo pos (starEach [] X.env)).any (·.1) || (backToKw pos (keywordEach kws X.env)).any (·.1.isNone)) = false := by rfl) :
    PE X (.Call (.Name x p) [] kws pos) (tCallN 0 ks.length sp (fun us ws => g us ws) E tNil tk) := by
  obtain ⟨f, fd, gg, D, b, F⟩ := F.ex
  exact pe_callN0 F (hr.mono hj) hg gg D.kp (hb f fd D) hx hkw hall hks hdb hpl
theorem pe_clK (F : Ok X.prog X.w X.K X.mg X.base CX k x st ps sp) (hr : Room j X.A) (hg : Gl X x) (hx : Passes CX X E) (hb : ∀ f fd, FnP X.K x st f fd → KBn X.K fd ps n ks (fun us ws => g us ws) (fun us ws => g us ws)) (ha : PA X (e :: es) t) (hkw : PK X kws tk) (hj : k ≤ j := by decide)
    (hall : (backToKw pos (keywordEach kws X.env)).all (·.1.isSome) = true := by rfl) (hks : (backToKw pos (keywordEach kws X.env)).filterMap (·.1) = ks := by rfl)
    (hdb : (x == ("__debug__" : Str)) = false := by decide) (he : starEach (e :: es) X.env = (false, eval e X.env) :: starEach es X.env := by rfl)
    (hpl : ((backTo pos (starEach (e :: es) X.env)).any (·.1) || (backToKw pos (keywordEach kws X.env)).any (·.1.isNone)) = false := by rfl) :
    PE X (.Call (.Name x p) (e :: es) kws pos) (tCallN n ks.length sp (fun us ws => g us ws) E t tk) := by
  obtain ⟨f, fd, gg, D, b, F⟩ := F.ex
  exact pe_callN F (hr.mono hj) hg gg D.kp (hb f fd D) hx ha hkw hall hks hdb he hpl
end
section
variable {X : Cx} {x : Str} {pos : Pos}
theorem pe_gint {i : Int} (hg : Gl X x) (h : ∃ t, X.mg x = some (.int i t)) (hd : (x == ("__debug__" : Str)) = false := by decide) : PE X (.Name x pos) (tC (.int i)) := by
  obtain ⟨t, h⟩ := h
  exact pe_glob hg h ⟨_, rfl⟩ hd
theorem pe_gstr {z : Str} (hg : Gl X x) (h : ∃ t, X.mg x = some (.str z t)) (hd : (x == ("__debug__" : Str)) = false := by decide) : PE X (.Name x pos) (tC (.str z)) := by
  obtain ⟨t, h⟩ := h
  exact pe_glob hg h ⟨_, rfl⟩ hd
theorem pe_sindex {o e : Expr} {to te : TE} {apos : Pos} (ho : PE X o to) (he : PE X e te) (hs : starEach [e] X.env = [(false, eval e X.env)] := by rfl) (hbase : attributeBase o "index" X.env (eval o X.env) = eval o X.env := by rfl) (hline : (apos.endLine == pos.line) = true := by rfl) :
    PE X (.Call (.Attribute o "index" apos) [e] [] pos) (tM1 (fun x xs H Q => ∃ a b i rest, x = .str a ∧ xs = [.str b] ∧ Builtin.Str.occurrences a b 0 a.length 1 = i :: rest ∧ Q (.int (i : Nat)) H) to te) :=
  pe_m1 F.slot_str_index F.type_str_index mt_sindex ho he hs hbase hline
end

/-! ### texts by their codes -/
def S (l : List Nat) : Str := ⟨l.toArray⟩
theorem S_len (l : List Nat) : (S l).length = l.length := by unfold S Str.length; simp
theorem S_codes (l : List Nat) : (S l).cps.toList = l := by unfold S; simp
theorem S_app (a b : List Nat) : S a ++ S b = S (a ++ b) := by
  show (⟨_⟩ : Str) = ⟨_⟩
  simp [S]
theorem S_inj {a b : List Nat} (h : S a = S b) : a = b := by
  have e := congrArg (fun z : Str => z.cps.toList) h
  simpa [S] using e
theorem S_iff {a b : List Nat} : (V.str (S a) = V.str (S b)) ↔ a = b := ⟨fun h => S_inj (V.str.inj h), fun h => by rw [h]⟩
theorem S_of (z : Str) : z = S z.cps.toList := by cases z; simp [S]
theorem signs_S (l : List Nat) : signsV (S l) = l.map fun c => V.str (S [c]) := by unfold signsV; rw [S_codes]; rfl
theorem cut_S (l : List Nat) (lo hi : Option Int) : cutS (S l) lo hi = S ((l.drop (HT.sIx l.length 0 lo)).take (HT.sIx l.length l.length hi - HT.sIx l.length 0 lo)) := by
  unfold cutS
  rw [S_codes, S_len] <;> rfl
theorem sIx_le {n : Nat} {d : Nat} {i : Nat} (h : i ≤ n) : HT.sIx n d (some (i : Int)) = i := by
  rw [HT.sIx_nat]; omega
theorem cut_to {l : List Nat} {n : Nat} (h : n ≤ l.length) : cutS (S l) none (some (n : Int)) = S (l.take n) := by
  rw [cut_S, sIx_le h, HT.sIx_none]
  simp
theorem cut_from {l : List Nat} {n : Nat} (h : n ≤ l.length) : cutS (S l) (some (n : Int)) none = S (l.drop n) := by
  rw [cut_S, sIx_le h, HT.sIx_none]
  congr 1
  rw [List.take_of_length_le]
  rw [List.length_drop]
  omega
theorem fold_app (x : List Nat) : ∀ (n : Nat) (acc : Array Nat), (List.replicate n x.toArray).foldl (· ++ ·) acc = acc ++ ((List.replicate n x).flatten).toArray := by
  intro n
  induction n with
  | zero => intro acc; simp
  | succ n ih => intro acc; rw [List.replicate_succ, List.foldl_cons, ih, List.replicate_succ, List.flatten_cons]; simp [Array.append_assoc]
theorem mul_S (l : List Nat) (n : Nat) : Txt.mul (S l) (n : Int) = S ((List.replicate n l).flatten) := by
  unfold Txt.mul
  split
  · rename_i h
    have : n = 0 := by omega
    subst this
    rfl
  · split
    · rename_i h1 h2
      rw [Bool.or_eq_true] at h2
      rcases h2 with h2 | h2
      · have e : (n : Int) = 1 := by simpa using h2
        have : n = 1 := by omega
        subst this
        simp
      · have e : l.length = 0 := by rw [S_len] at h2; simpa using h2
        have : l = [] := List.eq_nil_of_length_eq_zero e
        subst this
        congr 1
        simp
    · show (⟨_⟩ : Str) = ⟨_⟩
      congr 1
      show ((List.replicate (n : Int).toNat l.toArray).foldl (· ++ ·) #[]) = _
      rw [Int.toNat_natCast, fold_app]
      simp
theorem mulok_S {l : List Nat} {n : Nat} (h : l.length * n ≤ 1000000) (hn : n ≤ 1000000) : MulOk (S l) (n : Int) := by
  refine ⟨by simp; omega, fun h1 h2 => ?_, fun h1 h2 => ?_⟩
  · rw [S_len]
    have h3 : (1 : Int) ≤ (n : Int) := by omega
    rw [Bool.or_eq_false_iff] at h2
    have h4 : l.length ≠ 0 := by
      have := h2.2
      rw [S_len] at this
      simpa using this
    have h5 : l.length ≤ 1000000 := by
      have : l.length * 1 ≤ l.length * n := Nat.mul_le_mul_left _ (by omega)
      omega
    have h6 : (2 ^ 63 - 1) / 1000000 ≤ ((2 ^ 63 - 1 : Int)) / (n : Int) := by
      have h7 : (0 : Int) < (n : Int) := by omega
      rw [Int.le_ediv_iff_mul_le h7]
      have h8 : (n : Int) ≤ 1000000 := by omega
      have h9 : ((2 ^ 63 - 1 : Int) / 1000000) * (n : Int) ≤ ((2 ^ 63 - 1 : Int) / 1000000) * 1000000 := Int.mul_le_mul_of_nonneg_left h8 (by decide)
      have h10 : ((2 ^ 63 - 1 : Int) / 1000000) * 1000000 ≤ 2 ^ 63 - 1 := by decide
      omega
    have h7 : (1000000 : Int) ≤ (2 ^ 63 - 1) / 1000000 := by decide
    omega
  · rw [S_len, Int.toNat_natCast]
    have h0 : sizeLine = 16777216 := by decide
    unfold PySem.Builtin.Str.tooLong
    simp
    omega
theorem joinL_nil : ∀ ys : List (List Nat), TL.joinL [] ys = ys.flatten
  | [] => rfl
  | [x] => by simp [TL.joinL]
  | x :: y :: r => by simp [TL.joinL, joinL_nil (y :: r)]
theorem join_S (ys : List (List Nat)) : Txt.join (S []) (ys.map S) = S ys.flatten := by
  have h : Txt.join (SX.S []) (ys.map SX.S) = SX.S (TL.joinL [] ys) := SX.join_S [] ys
  rw [joinL_nil] at h
  exact h
theorem pe_strS {X : Cx} {x : Str} {j pos} (l : List Nat) (h : x = S l) : PE X (.Constant (.str x) j pos) (tC (.str (S l))) := by
  subst h
  exact pe_str
theorem pe_gstrS {X : Cx} {x z : Str} {pos : Pos} (l : List Nat) (h : z = S l) (hg : Gl X x) (hm : ∃ t, X.mg x = some (.str z t)) (hd : (x == ("__debug__" : Str)) = false := by decide) : PE X (.Name x pos) (tC (.str (S l))) := by
  subst h
  exact pe_gstr hg hm hd
/-! ### the rules with named readings -/
def rIsT : R2 := fun x y H Q => ∃ a b, x = .ty a ∧ y = .ty b ∧ Q (.bl (decide (a = b))) H
def rNoT : R2 := fun x y H Q => ∃ a b, x = .ty a ∧ y = .ty b ∧ Q (.bl (!decide (a = b))) H
def rIN : R2 := fun x y H Q => y = .non ∧ Q (.bl (decide (x = .non))) H
def rNN : R2 := fun x y H Q => y = .non ∧ Q (.bl (!decide (x = .non))) H
def rInC : R2 := fun x y H Q => ∃ (c : Nat) (z : Str), x = .str ⟨#[c]⟩ ∧ y = .str z ∧ Q (.bl (decide (c ∈ z.cps.toList))) H
def rNinC : R2 := fun x y H Q => ∃ (c : Nat) (z : Str), x = .str ⟨#[c]⟩ ∧ y = .str z ∧ Q (.bl (!decide (c ∈ z.cps.toList))) H
def rAddS : R2 := fun x y H Q => ∃ i j, x = .str i ∧ y = .str j ∧ i.length + j.length ≤ sizeLine ∧ Q (.str (i ++ j)) H
def rLtS : R2 := fun x y H Q => ∃ i j, x = .str i ∧ y = .str j ∧ Q (.bl (decide (i.cps.toList < j.cps.toList))) H
abbrev RL := List V → Hp → VK → Prop
def rLnS : RL := fun xs H Q => ∃ z, xs = [.str z] ∧ z.length ≤ sizeLine ∧ Q (.int z.length) H
def rLnQ (K : PySem.W.Frag) : RL := fun xs H Q => ∃ p ys, xs = [.ref p] ∧ (SqL K H p ys ∨ SqT K H p ys) ∧ Q (.int ys.length) H
def rInt : RL := fun xs H Q => (∃ i, xs = [.int i] ∧ Q (.int i) H) ∨ ∃ k, xs = [.bl k] ∧ Q (.int (if k then 1 else 0)) H
def rAbs : RL := fun xs H Q => ∃ i, xs = [.int i] ∧ Q (.int (if i < 0 then -i else i)) H
def rMax2 : RL := fun xs H Q => ∃ i j, xs = [.int i, .int j] ∧ Q (.int (if j > i then j else i)) H
def rMin2 : RL := fun xs H Q => ∃ i j, xs = [.int i, .int j] ∧ Q (.int (if j < i then j else i)) H
def rListOf (K : PySem.W.Frag) : RL := fun xs H Q => ∃ p ys, xs = [.ref p] ∧ (SqL K H p ys ∨ SqT K H p ys) ∧ ∀ l, H l = none → Q (.ref l) (upd H l (.lst ys))
abbrev RM := V → List V → Hp → VK → Prop
def rJoin (K : PySem.W.Frag) : RM := fun x xs H Q => ∃ a p, ∃ ys : List Str, x = .str a ∧ xs = [.ref p] ∧ (SqL K H p (ys.map V.str) ∨ SqT K H p (ys.map V.str)) ∧ (ys.map (·.length)).sum + ys.length * a.length ≤ 16777216 ∧ Q (.str (Txt.join a ys)) H
def rSIx : RM := fun x xs H Q => ∃ a b i rest, x = .str a ∧ xs = [.str b] ∧ Builtin.Str.occurrences a b 0 a.length 1 = i :: rest ∧ Q (.int (i : Nat)) H
section
variable {X : Cx}
theorem o_isT : OpR X (compareOp .Is) rIsT := op_isTyB
theorem o_noT : OpR X (compareOp .IsNot) rNoT := op_notTyB
theorem o_isN : OpR X (compareOp .Is) rIN := op_isN
theorem o_notN : OpR X (compareOp .IsNot) rNN := op_notN
theorem o_inC : OpR X (compareOp .In) rInC := op_in_sign
theorem o_ninC : OpR X (compareOp .NotIn) rNinC := op_notIn_sign
theorem o_addS : OpR X (binaryOp .Add) rAddS := op_add_str
theorem o_ltS : OpR X (compareOp .Lt) rLtS := op_lt_str
theorem k_lnS : CallR X (.builtin "len") rLnS := call_len_str
theorem k_lnQ : CallR X (.builtin "len") (rLnQ X.K) := call_len_seq
theorem k_int : CallR X (.type "int") rInt := call_int1
theorem k_abs : CallR X (.builtin "abs") rAbs := call_abs
theorem k_max2 (hc : X.calm = true) : CallR X (.builtin "max") rMax2 := call_max2 hc
theorem k_min2 (hc : X.calm = true) : CallR X (.builtin "min") rMin2 := call_min2 hc
theorem k_listOf : CallR X (.type "list") (rListOf X.K) := call_list_of
theorem pe_jn {o e : Expr} {to te : TE} {apos pos : Pos} (ho : PE X o to) (he : PE X e te) (hs : starEach [e] X.env = [(false, eval e X.env)] := by rfl) (hbase : attributeBase o "join" X.env (eval o X.env) = eval o X.env := by rfl) (hline : (apos.endLine == pos.line) = true := by rfl) :
    PE X (.Call (.Attribute o "join" apos) [e] [] pos) (tM1 (rJoin X.K) to te) := pe_join ho he hs hbase hline
theorem pe_sx {o e : Expr} {to te : TE} {apos pos : Pos} (ho : PE X o to) (he : PE X e te) (hs : starEach [e] X.env = [(false, eval e X.env)] := by rfl) (hbase : attributeBase o "index" X.env (eval o X.env) = eval o X.env := by rfl) (hline : (apos.endLine == pos.line) = true := by rfl) :
    PE X (.Call (.Attribute o "index" apos) [e] [] pos) (tM1 rSIx to te) := pe_sindex ho he hs hbase hline
end
/-! ### readings -/
section
variable {σ : L2.St} {H : Hp} {Q : VK} {QT : Bool → Hp → Prop} {QA : List V → Hp → Prop} {D : Ends} {ta tb tc te : TE} {t u : TS} {tt tu : TT} {tA tr : TA} {g : TG} {r r' : R2} {v x y : V} {i j : Nat} {K : PySem.W.Frag}
theorem r_seq (h : t { D with nx := u D } σ H) : tSeq t u D σ H := h
theorem r_asg (h : te σ H fun x H1 => g x σ H1 D.nx) : tAsg te g D σ H := h
theorem r_name {Q : L2.St → Hp → Prop} (h : Q (σ.set i (some v)) H) : gName i v σ H Q := h
theorem r_ret (h : te σ H D.rt) : tRet te D σ H := h
theorem r_drop (h : te σ H fun _ H1 => D.nx σ H1) : tDrop te D σ H := h
theorem r_next (h : D.nx σ H) : tNext D σ H := h
theorem r_ifS (h : tt σ H fun b H1 => if b = true then t D σ H1 else u D σ H1) : tIfS tt t u D σ H := h
theorem r_op (h : ta σ H fun x H1 => tb σ H1 fun y H2 => r x y H2 Q) : tOp r ta tb σ H Q := h
theorem r_un {r : V → Hp → VK → Prop} (h : ta σ H fun x H1 => r x H1 Q) : tUn r ta σ H Q := h
theorem r_var (h : σ[i]? = some (some v)) (q : Q v H) : tVar i σ H Q := ⟨v, h, q⟩
theorem r_c (q : Q v H) : tC v σ H Q := q
theorem r_I0 {f : Int → Int → V} {a b : Int} (q : Q (f a b) H) : rI0 f (.int a) (.int b) H Q := ⟨a, b, rfl, rfl, q⟩
theorem r_I {C : Int → Int → Prop} {f : Int → Int → V} {a b : Int} (c : C a b) (q : Q (f a b) H) : rI C f (.int a) (.int b) H Q := ⟨a, b, rfl, rfl, c, q⟩
theorem r_U {f : Int → V} {a : Int} (q : Q (f a) H) : rU f (.int a) H Q := ⟨a, rfl, q⟩
theorem r_eq (s : scal x y = true) (q : Q (.bl (decide (x = y))) H) : rEq x y H Q := ⟨s, q⟩
theorem r_ne (s : scal x y = true) (q : Q (.bl (!decide (x = y))) H) : rNe x y H Q := ⟨s, q⟩
theorem r_cb {r : List V → Hp → VK → Prop} (h : tA σ H fun vs H1 => r vs H1 Q) : tCB r tA σ H Q := h
theorem r_cons (h : ta σ H fun x H1 => tr σ H1 fun xs H2 => QA (x :: xs) H2) : tCons ta tr σ H QA := h
theorem r_nil (h : QA [] H) : tNil σ H QA := h
theorem r_call {sp : Sp} {E : XK} (h : tA σ H fun vs H1 => sp (vs ++ []) H1 Q E) : tCall sp [] E tA σ H Q := h
theorem r_callN {n m : Nat} {sp : Sp} {E : XK} {gV : List V → List V → List V} {tk : TA} (h : tA σ H fun vs H1 => tk σ H1 fun zs H2 => vs.length = n ∧ zs.length = m ∧ sp (gV vs zs) H2 Q E) : tCallN n m sp gV E tA tk σ H Q := h
theorem r_test (h : ta σ H fun x H' => ∃ k, x = .bl k ∧ QT k H') : tTest ta σ H QT := h
theorem r_B (h : ta σ H fun x H' => ∃ k, x = .bl k ∧ QT k H') : tB ta σ H QT := h
theorem r_k {P : Bool → Prop} {b : Bool} (h : P b) : ∃ k, V.bl b = .bl k ∧ P k := ⟨b, rfl, h⟩
theorem r_and (h : tt σ H fun c H1 => if c = true then tu σ H1 QT else QT false H1) : tAnd tt tu σ H QT := h
theorem r_or (h : tt σ H fun c H1 => if c = true then QT true H1 else tu σ H1 QT) : tOr tt tu σ H QT := h
theorem r_not (h : tt σ H fun c H1 => QT (!c) H1) : tNot tt σ H QT := h
theorem r_andV (h : ta σ H fun x H1 => ∃ c, x = .bl c ∧ if c = true then tb σ H1 Q else Q (.bl false) H1) : tAndV ta tb σ H Q := h
theorem r_orV (h : ta σ H fun x H1 => ∃ c, x = .bl c ∧ if c = true then Q (.bl true) H1 else tb σ H1 Q) : tOrV ta tb σ H Q := h
theorem r_notV (h : ta σ H fun x H1 => ∃ c, x = .bl c ∧ Q (.bl (!c)) H1) : tNotV ta σ H Q := h
theorem r_if (h : tt σ H fun c H1 => if c = true then ta σ H1 Q else tb σ H1 Q) : tIf tt ta tb σ H Q := h
theorem r_chain (h : ta σ H fun x H1 => tb σ H1 fun y H2 => r x y H2 fun z H3 => ∃ k, z = .bl k ∧ (if k = true then tc σ H3 fun w' H4 => r' y w' H4 Q else Q (.bl false) H3)) : tChain r r' ta tb tc σ H Q := h
theorem r_tup (h : tA σ H fun xs H1 => xs.length ≤ sizeLine ∧ ∀ p, H1 p = none → Q (.ref p) (upd H1 p (.tup xs))) : tTup tA σ H Q := h
theorem r_lst (h : tA σ H fun xs H1 => xs.length ≤ sizeLine ∧ ∀ p, H1 p = none → Q (.ref p) (upd H1 p (.lst xs))) : tLst tA σ H Q := h
theorem r_par (h : tA σ H fun vs H1 => ∃ v w, vs = [v, w] ∧ D.nx ((σ.set i (some v)).set j (some w)) H1) : tPar i j tA D σ H := h
theorem r_sl {rs : V → Option Int → Option Int → Hp → VK → Prop} {tl th : TO} (h : te σ H fun x H1 => tl σ H1 fun l H2 => th σ H2 fun u H3 => rs x l u H3 Q) : tSl rs te tl th σ H Q := h
theorem r_nopart {Q : Option Int → Hp → Prop} (h : Q none H) : tNoPart σ H Q := h
theorem r_part {Q : Option Int → Hp → Prop} (h : te σ H fun x H1 => ∃ i, x = .int i ∧ Q (some i) H1) : tPart te σ H Q := h
theorem r_i {P : Int → Prop} {a : Int} (h : P a) : ∃ i, V.int a = .int i ∧ P i := ⟨a, rfl, h⟩
theorem r_int {a : Int} (h : Q (.int a) H) : rInt [.int a] H Q := .inl ⟨a, rfl, h⟩
theorem r_intb {b : Bool} (h : Q (.int (if b then 1 else 0)) H) : rInt [.bl b] H Q := .inr ⟨b, rfl, h⟩
theorem r_abs {a : Int} (h : Q (.int (if a < 0 then -a else a)) H) : rAbs [.int a] H Q := ⟨a, rfl, h⟩
theorem r_max2 {a b : Int} (h : Q (.int (if b > a then b else a)) H) : rMax2 [.int a, .int b] H Q := ⟨a, b, rfl, h⟩
theorem r_min2 {a b : Int} (h : Q (.int (if b < a then b else a)) H) : rMin2 [.int a, .int b] H Q := ⟨a, b, rfl, h⟩
theorem r_lnS {z : Str} (hz : z.length ≤ sizeLine) (h : Q (.int z.length) H) : rLnS [.str z] H Q := ⟨z, rfl, hz, h⟩
theorem r_lnT {l : List Nat} (hz : l.length ≤ 1000000) (h : Q (.int l.length) H) : rLnS [.str (S l)] H Q := ⟨_, rfl, by rw [S_len]; exact Nat.le_trans hz (by decide), by rw [S_len]; exact h⟩
theorem r_lnL {p : Addr} {ys : List V} (hs : SqL K H p ys) (h : Q (.int ys.length) H) : rLnQ K [.ref p] H Q := ⟨p, ys, rfl, .inl hs, h⟩
theorem r_lnU {p : Addr} {ys : List V} (hs : SqT K H p ys) (h : Q (.int ys.length) H) : rLnQ K [.ref p] H Q := ⟨p, ys, rfl, .inr hs, h⟩
theorem r_listL {p : Addr} {ys : List V} (hs : SqL K H p ys) (h : ∀ l, H l = none → Q (.ref l) (upd H l (.lst ys))) : rListOf K [.ref p] H Q := ⟨p, ys, rfl, .inl hs, h⟩
theorem r_listS {l : List Nat} (hz : l.length ≤ 1000000) (h : ∀ p, H p = none → Q (.ref p) (upd H p (.lst (l.map fun c => V.str (S [c]))))) : rListStr [.str (S l)] H Q := ⟨_, rfl, by rw [S_len]; exact Nat.le_trans hz (by decide), by rw [signs_S]; exact h⟩
theorem r_isT {a b : String} (q : Q (.bl (decide (a = b))) H) : rIsT (.ty a) (.ty b) H Q := ⟨a, b, rfl, rfl, q⟩
theorem r_noT {a b : String} (q : Q (.bl (!decide (a = b))) H) : rNoT (.ty a) (.ty b) H Q := ⟨a, b, rfl, rfl, q⟩
theorem r_isN (q : Q (.bl (decide (x = .non))) H) : rIN x .non H Q := ⟨rfl, q⟩
theorem r_notN (q : Q (.bl (!decide (x = .non))) H) : rNN x .non H Q := ⟨rfl, q⟩
theorem r_inC {c : Nat} {l : List Nat} (q : Q (.bl (decide (c ∈ l))) H) : rInC (.str (S [c])) (.str (S l)) H Q := ⟨c, _, rfl, rfl, by rw [S_codes]; exact q⟩
theorem r_addS {a b : List Nat} (hz : a.length + b.length ≤ 1000000) (q : Q (.str (S (a ++ b))) H) : rAddS (.str (S a)) (.str (S b)) H Q := ⟨_, _, rfl, rfl, by rw [S_len, S_len]; exact Nat.le_trans hz (by decide), by rw [S_app]; exact q⟩
theorem r_mulS {a : List Nat} {n : Nat} (hz : a.length * n ≤ 1000000) (hn : n ≤ 1000000) (q : Q (.str (S (List.replicate n a).flatten)) H) : rMulS (.str (S a)) (.int (n : Int)) H Q := ⟨_, _, rfl, rfl, mulok_S hz hn, by rw [mul_S]; exact q⟩
theorem r_join {p : Addr} {ys : List (List Nat)} (hs : SqL K H p (ys.map fun l => V.str (S l))) (hz : ys.flatten.length ≤ 1000000) (q : Q (.str (S ys.flatten)) H) : rJoin K (.str (S [])) [.ref p] H Q :=
  ⟨_, p, ys.map S, rfl, rfl, .inl (by rw [List.map_map]; exact hs), by
    rw [List.map_map, S_len]
    have e : ((fun z : Str => z.length) ∘ S) = fun l : List Nat => l.length := funext fun l => S_len l
    rw [show ((·.length) ∘ S : List Nat → Nat) = fun l : List Nat => l.length from e]
    rw [List.length_flatten] at hz
    simp only [List.length_nil, Nat.mul_zero, Nat.add_zero]
    exact Nat.le_trans hz (by decide), by rw [join_S]; exact q⟩
theorem r_isi {T t : String} {b : Bool} (hx : TyX K H x (.type t)) (hk : kitB t T = some b) (q : Q (.bl b) H) : rIsi K [x, .ty T] H Q := ⟨x, .ty T, .type t, .type T, b, rfl, .ty T, hx, kit_ty hk, q⟩
def isiS (x : V) (T : String) : Option Bool := match x with
  | .int _ => kitB "int" T
  | .str _ => kitB "str" T
  | .bl _ => kitB "bool" T
  | .non => kitB "NoneType" T
  | _ => none
theorem r_isiS {T : String} {b : Bool} (h : isiS x T = some b) (q : Q (.bl b) H) : rIsi K [x, .ty T] H Q := by
  cases x with
  | int i => exact r_isi (.base (.int i)) h q
  | str i => exact r_isi (.base (.str i)) h q
  | bl i => exact r_isi (.base (.bl i)) h q
  | non => exact r_isi (.base .non) h q
  | _ => cases h
theorem r_isiT {T : String} {a : Addr} {xs : List V} {b : Bool} (h : SqT K H a xs) (hk : kitB "tuple" T = some b) (q : Q (.bl b) H) : rIsi K [.ref a, .ty T] H Q := by
  rcases h with h | ⟨o, its, n, h1, h2, _⟩
  · rcases h with h | ⟨o, h⟩
    · exact r_isi (.base (.tup h)) hk q
    · exact r_isi (.fTuple h) hk q
  · exact r_isi (.kTuple h1 h2) hk q
theorem r_typ {T : String} (h : TyB K H x T) (q : Q (.ty T) H) : rTyp K [x] H Q := ⟨x, T, rfl, h, q⟩
theorem r_for {wi : TI} {tb : TS} (h : wi σ H fun J H1 => ∃ W : Nat → Nat → L2.St → Hp → Prop, (∃ m, W 0 m σ H1) ∧ ∀ i m σ H, W i m σ H →
  (J.stop i H ∧ D.nx σ H) ∨ (J.go i H ∧ ∃ N : L2.St → Hp → Prop, (∀ σ' H', N σ' H' → ∃ m', m' < m ∧ W (i + 1) m' σ' H') ∧ ∀ x H', J.yld i H x H' → g x σ H' fun σ2 H2 => tb { D with nx := N, ct := N, bk := D.nx } σ2 H2)) : tFor wi g tb D σ H := h
theorem r_iStr {R : It → Hp → Prop} (h : te σ H fun v H1 => ∃ x, v = .str x ∧ R (Its x) H1) : iStr te σ H R := h
theorem r_iList {R : It → Hp → Prop} (h : te σ H fun x H1 => ∃ a, x = .ref a ∧ (∃ xs, SqL K H1 a xs) ∧ R (Itl K a) H1) : iList K te σ H R := h
theorem r_iTup {R : It → Hp → Prop} (h : te σ H fun x H1 => ∃ a, x = .ref a ∧ (∃ xs, SqT K H1 a xs) ∧ R (Itt K a) H1) : iTup K te σ H R := h
theorem r_tM1 {r : V → List V → Hp → VK → Prop} (h : ta σ H fun x H1 => (∃ a, x = .str a) ∧ te σ H1 fun y H2 => r x [y] H2 Q) : tM1 r ta te σ H Q := h
theorem r_lc {wi : TI} {vs : List Nat} (h : wi σ H fun J H1 => ∀ D, H1 D = none → ∃ W : Nat → Nat → Hp → Prop, (∃ m, W 0 m (upd H1 D (.lst []))) ∧ ∀ i m H, W i m H →
  (J.stop i H ∧ Q (.ref D) H) ∨ (J.go i H ∧ ∃ Nx : Hp → Prop, (∀ H', Nx H' → ∃ m', m' < m ∧ W (i + 1) m' H') ∧ ∀ x H', J.yld i H x H' → g x (wipe σ vs) H' fun σ2 H2 => wipe σ2 vs = wipe σ vs ∧ tt σ2 H2 fun b H3 =>
    if b = true then te σ2 H3 fun y H4 => ∃ acc, H4 D = some (.lst acc) ∧ acc.length < sizeLine ∧ Nx (upd H4 D (.lst (acc ++ [y]))) else Nx H3)) : tLc wi g tt te vs σ H Q := h
theorem r_yes (h : QT true H) : tYes σ H QT := h
theorem r_ixL {p : Addr} {xs : List V} {a : Int} (hS : SqL K H p xs) (ha : atI xs a = some v) (q : Q v H) : rIxL K (.ref p) (.int a) H Q := ⟨p, xs, a, v, rfl, rfl, hS, ha, q⟩
theorem r_ixT {p : Addr} {xs : List V} {a : Int} (hS : SqT K H p xs) (ha : atI xs a = some v) (q : Q v H) : rIxT K (.ref p) (.int a) H Q := ⟨p, xs, a, v, rfl, rfl, hS, ha, q⟩
theorem r_true {A B : Prop} (h : A) : if true = true then A else B := by rw [if_pos rfl]; exact h
theorem r_false {A B : Prop} (h : B) : if false = true then A else B := by rw [if_neg Bool.false_ne_true]; exact h
theorem r_dec {c A B : Prop} [Decidable c] (h1 : c → A) (h2 : ¬ c → B) : if decide c = true then A else B := by
  by_cases h : c
  · rw [decide_eq_true h]; exact r_true (h1 h)
  · rw [decide_eq_false h]; exact r_false (h2 h)
theorem r_ndec {c A B : Prop} [Decidable c] (h1 : ¬ c → A) (h2 : c → B) : if (!decide c) = true then A else B := by
  by_cases h : c
  · rw [decide_eq_true h]; exact r_false (h2 h)
  · rw [decide_eq_false h]; exact r_true (h1 h)
theorem r_ndecI {a b : V} {A B : Prop} (h1 : ¬ a = b → A) (h2 : a = b → B) : if (!decide (a = b)) = true then A else B := r_ndec h1 h2
end
/-! ### heaps: all but one object -/
def But (a : Addr) (H H' : Hp) : Prop := ∀ b o, b ≠ a → H b = some o → H' b = some o
section
variable {a p : Addr} {H H' H1 H2 : Hp} {o : HO}
theorem But.refl : But a H H := fun _ _ _ h => h
theorem But.trans (e : But a H H1) (f : But a H1 H2) : But a H H2 := fun b o n h => f b o n (e b o n h)
theorem But.of (e : Same H H') : But a H H' := fun b o _ h => e b o h
theorem But.new (e : But a H H1) (h : H1 p = none) : But a H (upd H1 p o) := fun b u n q => by
  have q' := e b u n q
  rw [upd_ne (ne_of_none q' h)]
  exact q'
theorem But.put (e : But a H H1) : But a H (upd H1 a o) := fun b u n q => by
  rw [upd_ne n]
  exact e b u n q
theorem But.mut (e : But a H H1) (h : H p = none) : But a H (upd H1 p o) := fun b u n q => by
  rw [upd_ne (ne_of_none q h)]
  exact e b u n q
theorem same_new (h : H p = none) : Same H (upd H p o) := fun b u q => by
  rw [upd_ne (ne_of_none q h)]
  exact q
theorem Same.mut (e : Same H H1) (h : H p = none) : Same H (upd H1 p o) := fun b u q => by
  rw [upd_ne (ne_of_none q h)]
  exact e b u q
theorem But.free (e : But a H H1) {l : Addr} (n : l ≠ a) (h : H1 l = none) : H l = none := by
  cases q : H l with
  | none => rfl
  | some o => rw [e l o n q] at h; cases h
theorem But.rd (e : But a H H1) {b : Addr} {u : HO} (n : b ≠ a) (h : Rd H b u) : Rd H1 b u := by
  rcases h with h | ⟨o, h⟩
  · exact .inl (e _ _ n h)
  · exact .inr ⟨o, e _ _ n h⟩
theorem But.sql {K : PySem.W.Frag} (e : But a H H1) {b : Addr} {xs : List V} (n : b ≠ a) (h : SqL K H b xs) : SqL K H1 b xs := by
  rcases h with h | h
  · exact .inl (e.rd n h)
  · exact .inr h
theorem But.sqt {K : PySem.W.Frag} (e : But a H H1) {b : Addr} {xs : List V} (n : b ≠ a) (h : SqT K H b xs) : SqT K H1 b xs := by
  rcases h with h | h
  · exact .inl (e.rd n h)
  · exact .inr h
theorem Same.sqt {K : PySem.W.Frag} (e : Same H H1) {b : Addr} {xs : List V} (h : SqT K H b xs) : SqT K H1 b xs := by
  rcases h with (h | ⟨o, h⟩) | h
  · exact .inl (.inl (e _ _ h))
  · exact .inl (.inr ⟨o, e _ _ h⟩)
  · exact .inr h
theorem fresh_ne (h : H p = none) (e : H a = some o) : p ≠ a := (ne_of_none e h).symm
end
/-! ### the pot: draws -/
def PotAt (H : Hp) (a : Addr) (c : Int) : Prop := ∃ own sd n : Int, H a = some (.lst [.int own, .int sd, .int n]) ∧ 0 ≤ own ∧ own.natAbs < 2 ^ 1000 ∧ 0 ≤ sd ∧ sd < 2305843009213693951 ∧ 0 ≤ n ∧ n ≤ c
theorem PotAt.mono {H : Hp} {a : Addr} {c d : Int} (h : PotAt H a c) (l : c ≤ d) : PotAt H a d := by
  obtain ⟨own, sd, n, h1, h2, h3, h4, h5, h6, h7⟩ := h
  exact ⟨own, sd, n, h1, h2, h3, h4, h5, h6, by omega⟩
theorem PotAt.new {H : Hp} {a p : Addr} {c : Int} {o : HO} (h : PotAt H a c) (n : H p = none) : PotAt (upd H p o) a c := by
  obtain ⟨own, sd, k, h1, h2⟩ := h
  exact ⟨own, sd, k, by rw [upd_ne (ne_of_none h1 n)]; exact h1, h2⟩
theorem PotAt.ne {H : Hp} {a p : Addr} {c : Int} (h : PotAt H a c) (n : p ≠ a) {o : HO} : PotAt (upd H p o) a c := by
  obtain ⟨own, sd, k, h1, h2⟩ := h
  exact ⟨own, sd, k, by rw [upd_ne n.symm]; exact h1, h2⟩
theorem PotAt.fresh {H : Hp} {a p : Addr} {c : Int} (h : PotAt H a c) (n : H p = none) : p ≠ a := by
  obtain ⟨own, sd, k, h1, h2⟩ := h
  exact fresh_ne n h1
theorem PotAt.same {H H' : Hp} {a : Addr} {c : Int} (h : PotAt H a c) (e : Same H H') : PotAt H' a c := by
  obtain ⟨own, sd, k, h1, h2⟩ := h
  exact ⟨own, sd, k, e _ _ h1, h2⟩

/-! ### the fates: n 110, f 102, s 115 -/
def Wd (l : List Nat) : Prop := ∀ c ∈ l, c = 110 ∨ c = 102 ∨ c = 115
theorem Wd.nil : Wd [] := fun _ h => nomatch h
theorem Wd.app {a b : List Nat} (h : Wd a) (h' : Wd b) : Wd (a ++ b) := fun c hc => (List.mem_append.mp hc).elim (h c) (h' c)
theorem Wd.take {a : List Nat} (h : Wd a) (n : Nat) : Wd (a.take n) := fun c hc => h c (List.mem_of_mem_take hc)
theorem Wd.drop {a : List Nat} (h : Wd a) (n : Nat) : Wd (a.drop n) := fun c hc => h c (List.mem_of_mem_drop hc)
theorem Wd.get {a : List Nat} (h : Wd a) {i c : Nat} (e : a[i]? = some c) : c = 110 ∨ c = 102 ∨ c = 115 := h c (List.mem_of_getElem? e)
theorem Wd.rep {a : List Nat} (h : Wd a) (n : Nat) : Wd (List.replicate n a).flatten := fun c hc => by
  obtain ⟨x, h1, h2⟩ := List.mem_flatten.mp hc
  rw [List.eq_of_mem_replicate h1] at h2
  exact h c h2
/-! ### loops over texts -/
theorem for_S {l : List Nat} {g : TG} {tb : TS} {D : Ends} {σ : L2.St} {H : Hp} (Pv : Nat → L2.St → Hp → Prop) (h0 : Pv 0 σ H)
    (hs : ∀ i c σ H, l[i]? = some c → Pv i σ H → g (.str (S [c])) σ H fun σ2 H2 => tb { D with nx := Pv (i + 1), ct := Pv (i + 1), bk := D.nx } σ2 H2) (hd : ∀ σ H, Pv l.length σ H → D.nx σ H) :
    ∃ W : Nat → Nat → L2.St → Hp → Prop, (∃ m, W 0 m σ H) ∧ ∀ i m σ H, W i m σ H →
      ((Its (S l)).stop i H ∧ D.nx σ H) ∨ ((Its (S l)).go i H ∧ ∃ N : L2.St → Hp → Prop, (∀ σ' H', N σ' H' → ∃ m', m' < m ∧ W (i + 1) m' σ' H') ∧ ∀ x H', (Its (S l)).yld i H x H' → g x σ H' fun σ2 H2 => tb { D with nx := N, ct := N, bk := D.nx } σ2 H2) := by
  have sz : (S l).cps.size = l.length := by unfold S; simp
  refine ⟨fun i m σ H => m = l.length - i ∧ i ≤ l.length ∧ Pv i σ H, ⟨l.length, by simp, Nat.zero_le _, h0⟩, ?_⟩
  rintro i m σ H ⟨rfl, hi, p⟩
  by_cases hlt : i < l.length
  · refine .inr ⟨(by show i < (S l).cps.size; rw [sz]; exact hlt), Pv (i + 1), fun σ' H' p' => ⟨l.length - (i + 1), by omega, rfl, hlt, p'⟩, fun x H' y => ?_⟩
    obtain ⟨rfl, c, e, rfl⟩ := y
    exact hs i c σ H' (by simpa [S] using e) p
  · refine .inl ⟨(by show (S l).cps.size ≤ i; rw [sz]; omega), ?_⟩
    have : i = l.length := by omega
    subst this
    exact hd σ H p
theorem lc_S {l : List Nat} {g : TG} {tt : TT} {te : TE} {vs : List Nat} {σ : L2.St} {H1 : Hp} {D : Addr} {Qd : Hp → Prop} (Pv : Nat → Hp → Prop) (h0 : Pv 0 (upd H1 D (.lst [])))
    (hs : ∀ i c H, l[i]? = some c → Pv i H → g (.str (S [c])) (wipe σ vs) H fun σ2 H2 => wipe σ2 vs = wipe σ vs ∧ tt σ2 H2 fun b H3 =>
      if b = true then te σ2 H3 fun y H4 => ∃ acc, H4 D = some (.lst acc) ∧ acc.length < sizeLine ∧ Pv (i + 1) (upd H4 D (.lst (acc ++ [y]))) else Pv (i + 1) H3) (hd : ∀ H, Pv l.length H → Qd H) :
    ∃ W : Nat → Nat → Hp → Prop, (∃ m, W 0 m (upd H1 D (.lst []))) ∧ ∀ i m H, W i m H →
      ((Its (S l)).stop i H ∧ Qd H) ∨ ((Its (S l)).go i H ∧ ∃ Nx : Hp → Prop, (∀ H', Nx H' → ∃ m', m' < m ∧ W (i + 1) m' H') ∧ ∀ x H', (Its (S l)).yld i H x H' → g x (wipe σ vs) H' fun σ2 H2 => wipe σ2 vs = wipe σ vs ∧ tt σ2 H2 fun b H3 =>
        if b = true then te σ2 H3 fun y H4 => ∃ acc, H4 D = some (.lst acc) ∧ acc.length < sizeLine ∧ Nx (upd H4 D (.lst (acc ++ [y]))) else Nx H3) := by
  have sz : (S l).cps.size = l.length := by unfold S; simp
  refine ⟨fun i m H => m = l.length - i ∧ i ≤ l.length ∧ Pv i H, ⟨l.length, by simp, Nat.zero_le _, h0⟩, ?_⟩
  rintro i m H ⟨rfl, hi, p⟩
  by_cases hlt : i < l.length
  · refine .inr ⟨(by show i < (S l).cps.size; rw [sz]; exact hlt), Pv (i + 1), fun H' p' => ⟨l.length - (i + 1), by omega, rfl, hlt, p'⟩, fun x H' y => ?_⟩
    obtain ⟨rfl, c, e, rfl⟩ := y
    exact hs i c H' (by simpa [S] using e) p
  · refine .inl ⟨(by show (S l).cps.size ≤ i; rw [sz]; omega), ?_⟩
    have : i = l.length := by omega
    subst this
    exact hd H p
section
theorem r_yesD {c A B : Prop} [Decidable c] (h : c) (q : A) : if decide c = true then A else B := by rw [decide_eq_true h]; exact r_true q
theorem r_noD {c A B : Prop} [Decidable c] (h : ¬ c) (q : B) : if decide c = true then A else B := by rw [decide_eq_false h]; exact r_false q
theorem r_nt {A B : Prop} (h : B) : if (!true) = true then A else B := r_false h
theorem r_nf {A B : Prop} (h : A) : if (!false) = true then A else B := r_true h
theorem r_nyesD {c A B : Prop} [Decidable c] (h : c) (q : B) : if (!decide c) = true then A else B := by rw [decide_eq_true h]; exact r_false q
theorem r_nnoD {c A B : Prop} [Decidable c] (h : ¬ c) (q : A) : if (!decide c) = true then A else B := by rw [decide_eq_false h]; exact r_true q
theorem r_allT {K : PySem.W.Frag} {H : Hp} {Q : VK} {D : Addr} {n : Nat} (h : H D = some (.lst (List.replicate n (.bl true)))) (q : Q (.bl true) H) : rAll K [.ref D] H Q := by
  refine ⟨D, List.replicate n true, rfl, SqL.of ?_, ?_⟩
  · rw [h, List.map_replicate]
  · have e : (List.replicate n true).all id = true := by simp
    rw [e]
    exact q
theorem rep_len (n : Nat) : (List.replicate n (V.bl true)).length = n := List.length_replicate
theorem rep_succ (n : Nat) : List.replicate n (V.bl true) ++ [V.bl true] = List.replicate (n + 1) (V.bl true) := by
  rw [List.replicate_succ']
theorem le_line {n : Nat} (h : n ≤ 1000000) : n ≤ sizeLine := Nat.le_trans h (by decide)
theorem lt_line {n : Nat} (h : n ≤ 1000000) : n < sizeLine := Nat.lt_of_le_of_lt h (by decide)
/-- a comprehension over a text, every item True -/
theorem lcS_true {l : List Nat} {g : TG} {te : TE} {vs : List Nat} {σ : L2.St} {H1 : Hp} {D : Addr} {Qd : Hp → Prop} (hD : H1 D = none) (hl : l.length ≤ 1000000)
    (hs : ∀ (i c : Nat) (H : Hp), l[i]? = some c → Same H1 H → ∀ R : V → Hp → Prop, (∀ H', Same H H' → R (.bl true) H') → g (.str (S [c])) (wipe σ vs) H fun σ2 H2 => wipe σ2 vs = wipe σ vs ∧ te σ2 H2 R)
    (hd : ∀ H, Same H1 H → H D = some (.lst (List.replicate l.length (.bl true))) → Qd H) :
    ∃ W : Nat → Nat → Hp → Prop, (∃ m, W 0 m (upd H1 D (.lst []))) ∧ ∀ i m H, W i m H →
      ((Its (S l)).stop i H ∧ Qd H) ∨ ((Its (S l)).go i H ∧ ∃ Nx : Hp → Prop, (∀ H', Nx H' → ∃ m', m' < m ∧ W (i + 1) m' H') ∧ ∀ x H', (Its (S l)).yld i H x H' → g x (wipe σ vs) H' fun σ2 H2 => wipe σ2 vs = wipe σ vs ∧ tYes σ2 H2 fun b H3 =>
        if b = true then te σ2 H3 fun y H4 => ∃ acc, H4 D = some (.lst acc) ∧ acc.length < sizeLine ∧ Nx (upd H4 D (.lst (acc ++ [y]))) else Nx H3) := by
  refine lc_S (fun i H => Same H1 H ∧ H D = some (.lst (List.replicate i (.bl true)))) ⟨same_new hD, upd_same⟩ (fun i c H e p => ?_) fun H p => hd H p.1 p.2
  have hi : i < l.length := (List.getElem?_eq_some_iff.mp e).1
  exact hs i c H e p.1 _ fun H' e' => ⟨_, e' _ _ p.2, by rw [rep_len]; exact lt_line (by omega), Same.mut (p.1.trans e') hD, by rw [upd_same, rep_succ]⟩
end

/-! ### cuts, stores -/
section
variable {σ : L2.St} {H : Hp} {Q : VK} {D : Ends} {te : TE} {ts : TS} {K : PySem.W.Frag}
theorem r_cut (P : V → Hp → Prop) (fin : ∀ x H1, P x H1 → Q x H1) (main : ∀ R : VK, (∀ x H1, P x H1 → R x H1) → te σ H R) : te σ H Q := main Q fin
theorem s_cut (P : L2.St → Hp → Prop) (fin : ∀ σ' H', P σ' H' → D.nx σ' H') (main : ∀ N : L2.St → Hp → Prop, (∀ σ' H', P σ' H' → N σ' H') → ts { D with nx := N } σ H) : ts D σ H := main D.nx fin
theorem t_cut {tt : TT} {QT : Bool → Hp → Prop} (P : Bool → Hp → Prop) (fin : ∀ x H1, P x H1 → QT x H1) (main : ∀ R : Bool → Hp → Prop, (∀ x H1, P x H1 → R x H1) → tt σ H R) : tt σ H QT := main QT fin
theorem r_gSub {to ti : TE} {t : TSet} {v : V} {Q : L2.St → Hp → Prop} (h : to σ H fun o H1 => ti σ H1 fun i H2 => t o i v H2 fun H3 => Q σ H3) : gSub to ti t v σ H Q := h
theorem r_setL {p : Addr} {xs : List V} {k : Int} {j : Nat} {v : V} {Q : Hp → Prop} (h : H p = some (.lst xs)) (hk : ixN xs.length k = some j) (q : Q (upd H p (.lst (xs.set j v)))) : rSetL (.ref p) (.int k) v H Q := ⟨p, xs, k, j, rfl, rfl, h, hk, q⟩
theorem r_lstRg {tr : L2.St → Hp → (Int → Int → Hp → Prop) → Prop} (h : tr σ H fun a b H1 => RgOk a b ∧ ∀ q, H1 q = none → Q (.ref q) (upd H1 q (.lst (rgV a b)))) : tLstRg tr σ H Q := h
theorem r_rg1 {ta : TE} {Q : Int → Int → Hp → Prop} (h : ta σ H fun x H1 => ∃ n, x = .int n ∧ Q 0 n H1) : tRg1 ta σ H Q := h
theorem r_gTup {n : Nat} {t : TGs} {a : Addr} {xs : List V} {Q : L2.St → Hp → Prop} (hs : SqT K H a xs) (hl : xs.length = n) (h : t xs σ H Q) : gTup K n t (.ref a) σ H Q := ⟨a, xs, rfl, hs, hl, h⟩
theorem r_gCons {t : TG} {u : TGs} {v : V} {r : List V} {Q : L2.St → Hp → Prop} (h : t v σ H fun σ' H' => u r σ' H' Q) : gCons t u (v :: r) σ H Q := ⟨v, r, rfl, h⟩
theorem r_gNil {Q : L2.St → Hp → Prop} (h : Q σ H) : gNil [] σ H Q := ⟨rfl, h⟩
theorem r_slL {a : Addr} {xs : List V} {lo hi : Option Int} (hs : SqL K H a xs) (h : ∀ p, H p = none → Q (.ref p) (upd H p (.lst (cutV xs lo hi)))) : rSlL K (.ref a) lo hi H Q := ⟨a, xs, rfl, hs, h⟩
theorem r_slS {l : List Nat} {lo hi : Option Int} (hz : l.length ≤ 1000000) (h : Q (.str (cutS (S l) lo hi)) H) : rSlS (.str (S l)) lo hi H Q := ⟨_, rfl, by rw [S_len]; exact le_line hz, h⟩
theorem r_sum {a : Addr} {ns : List Int} (hs : SqL K H a (ns.map V.int)) (q : Q (.int ns.sum) H) : rSum K [.ref a] H Q := ⟨a, ns, rfl, hs, q⟩
end
/-! ### sizes -/
theorem log2_le {n k : Nat} (h : n < 2 ^ k) (hk : 0 < k) : n.log2 < k := PySem.Flt.log2_lt_of hk h
theorem cmw {i j : Int} (h1 : -(2 ^ 1100) < i) (h2 : i < 2 ^ 1100) (h3 : -(2 ^ 1100) < j) (h4 : j < 2 ^ 1100) : CMulW i j := wide_mul (a := 1100) (b := 1100) (by omega) (by omega) (by decide) (by decide) (by decide)
theorem cms {i j : Int} (h1 : -100000000000000000000 < i) (h2 : i < 100000000000000000000) (h3 : -100000000000000000000 < j) (h4 : j < 100000000000000000000) : CMulW i j := wide_mul (a := 70) (b := 70) (by omega) (by omega) (by decide) (by decide) (by decide)
theorem cdw {i j : Int} (h1 : 0 < j) (h2 : j < 100000000000000000000) : CDivW i j := wide_div (b := 70) h1 (by omega) (by decide) (by decide)
theorem cpw {i : Int} {n : Int} (h1 : 0 ≤ i) (h2 : i < 100000000000000000000) (h3 : 0 ≤ n) (h4 : n ≤ 100000) : CPowW i n := by
  refine ⟨h3, ?_⟩
  have b : Builtin.Int.intBits i ≤ i.natAbs.log2 + 1 := by
    unfold Builtin.Int.intBits
    split <;> omega
  have c : i.natAbs.log2 < 70 := log2_le (by omega) (by decide)
  have d : (Builtin.Int.intBits i : Int) ≤ 70 := by omega
  have e : (Builtin.Int.intBits i : Int) * n ≤ 70 * 100000 := Int.mul_le_mul d h4 h3 (by decide)
  have f : (70 * 100000 : Int) ≤ 2 ^ 27 := by decide
  omega
theorem mulB {x y a b c : Int} (h1 : 0 ≤ x) (h2 : x ≤ a) (h3 : 0 ≤ y) (h4 : y ≤ b) (h5 : a * b ≤ c) : 0 ≤ x * y ∧ x * y ≤ c := by
  refine ⟨Int.mul_nonneg h1 h3, Int.le_trans (Int.mul_le_mul h2 h4 h3 (Int.le_trans h1 h2)) h5⟩
theorem at_mem {xs : List V} {i : Int} (h1 : 0 ≤ i) (h2 : i < xs.length) : ∃ v, atI xs i = some v ∧ v ∈ xs := by
  obtain ⟨j, rfl⟩ := Int.eq_ofNat_of_zero_le h1
  have hj : j < xs.length := by omega
  exact ⟨xs[j], atI_nat (List.getElem?_eq_getElem hj), List.getElem_mem hj⟩
theorem div_sz {x u : Int} {k : Nat} (h1 : 0 ≤ x) (h2 : x.natAbs < 2 ^ k) (h3 : 0 < u) : 0 ≤ x / u ∧ (x / u).natAbs < 2 ^ k := by
  have a : 0 ≤ x / u := Int.ediv_nonneg h1 (Int.le_of_lt h3)
  have b : x / u ≤ x := Int.ediv_le_self _ h1
  exact ⟨a, by omega⟩

/-! ### loops and comprehensions over any walk -/
theorem for_J {J : It} {n : Nat} {g : TG} {tb : TS} {D : Ends} {σ : L2.St} {H : Hp} (Pv : Nat → L2.St → Hp → Prop) (h0 : Pv 0 σ H) (hgo : ∀ i σ H, i < n → Pv i σ H → J.go i H) (hstop : ∀ σ H, Pv n σ H → J.stop n H)
    (hs : ∀ (i : Nat) (x : V) (σ : L2.St) (H H' : Hp), i < n → Pv i σ H → J.yld i H x H' → g x σ H' fun σ2 H2 => tb { D with nx := Pv (i + 1), ct := Pv (i + 1), bk := D.nx } σ2 H2) (hd : ∀ σ H, Pv n σ H → D.nx σ H) :
    ∃ W : Nat → Nat → L2.St → Hp → Prop, (∃ m, W 0 m σ H) ∧ ∀ i m σ H, W i m σ H →
      (J.stop i H ∧ D.nx σ H) ∨ (J.go i H ∧ ∃ N : L2.St → Hp → Prop, (∀ σ' H', N σ' H' → ∃ m', m' < m ∧ W (i + 1) m' σ' H') ∧ ∀ x H', J.yld i H x H' → g x σ H' fun σ2 H2 => tb { D with nx := N, ct := N, bk := D.nx } σ2 H2) := by
  refine ⟨fun i m σ H => m = n - i ∧ i ≤ n ∧ Pv i σ H, ⟨n, by simp, Nat.zero_le _, h0⟩, ?_⟩
  rintro i m σ H ⟨rfl, hi, p⟩
  by_cases hlt : i < n
  · exact .inr ⟨hgo i σ H hlt p, Pv (i + 1), fun σ' H' p' => ⟨n - (i + 1), by omega, rfl, hlt, p'⟩, fun x H' y => hs i x σ H H' hlt p y⟩
  · have : i = n := by omega
    subst this
    exact .inl ⟨hstop σ H p, hd σ H p⟩
theorem lc_J {J : It} {n : Nat} {g : TG} {tt : TT} {te : TE} {vs : List Nat} {σ : L2.St} {H1 : Hp} {D : Addr} {Qd : Hp → Prop} (Pv : Nat → Hp → Prop) (h0 : Pv 0 (upd H1 D (.lst []))) (hgo : ∀ i H, i < n → Pv i H → J.go i H) (hstop : ∀ H, Pv n H → J.stop n H)
    (hs : ∀ (i : Nat) (x : V) (H H' : Hp), i < n → Pv i H → J.yld i H x H' → g x (wipe σ vs) H' fun σ2 H2 => wipe σ2 vs = wipe σ vs ∧ tt σ2 H2 fun b H3 =>
      if b = true then te σ2 H3 fun y H4 => ∃ acc, H4 D = some (.lst acc) ∧ acc.length < sizeLine ∧ Pv (i + 1) (upd H4 D (.lst (acc ++ [y]))) else Pv (i + 1) H3) (hd : ∀ H, Pv n H → Qd H) :
    ∃ W : Nat → Nat → Hp → Prop, (∃ m, W 0 m (upd H1 D (.lst []))) ∧ ∀ i m H, W i m H →
      (J.stop i H ∧ Qd H) ∨ (J.go i H ∧ ∃ Nx : Hp → Prop, (∀ H', Nx H' → ∃ m', m' < m ∧ W (i + 1) m' H') ∧ ∀ x H', J.yld i H x H' → g x (wipe σ vs) H' fun σ2 H2 => wipe σ2 vs = wipe σ vs ∧ tt σ2 H2 fun b H3 =>
        if b = true then te σ2 H3 fun y H4 => ∃ acc, H4 D = some (.lst acc) ∧ acc.length < sizeLine ∧ Nx (upd H4 D (.lst (acc ++ [y]))) else Nx H3) := by
  refine ⟨fun i m H => m = n - i ∧ i ≤ n ∧ Pv i H, ⟨n, by simp, Nat.zero_le _, h0⟩, ?_⟩
  rintro i m H ⟨rfl, hi, p⟩
  by_cases hlt : i < n
  · exact .inr ⟨hgo i H hlt p, Pv (i + 1), fun H' p' => ⟨n - (i + 1), by omega, rfl, hlt, p'⟩, fun x H' y => hs i x H H' hlt p y⟩
  · have : i = n := by omega
    subst this
    exact .inl ⟨hstop H p, hd H p⟩
/-- every turn gives an item: Iv what holds between the turns, Vp of the items -/
theorem lc_acc {J : It} {n : Nat} {g : TG} {te : TE} {vs : List Nat} {σ : L2.St} {H1 : Hp} {D : Addr} {Qd : Hp → Prop} (Iv : Nat → Hp → Prop) (Vp : Nat → V → Prop) (hn : n ≤ 1000000) (h0 : Iv 0 (upd H1 D (.lst [])))
    (stab : ∀ i H acc acc', Iv i H → H D = some (.lst acc) → Iv i (upd H D (.lst acc'))) (hgo : ∀ i H, i < n → Iv i H → J.go i H) (hstop : ∀ H, Iv n H → J.stop n H)
    (hs : ∀ (i : Nat) (x : V) (H H' : Hp) (acc : List V), i < n → Iv i H → H D = some (.lst acc) → J.yld i H x H' → ∀ R : V → Hp → Prop, (∀ v H4, H4 D = some (.lst acc) → Vp i v → Iv (i + 1) H4 → R v H4) →
      g x (wipe σ vs) H' fun σ2 H2 => wipe σ2 vs = wipe σ vs ∧ te σ2 H2 R)
    (hd : ∀ H acc, acc.length = n → (∀ i v, acc[i]? = some v → Vp i v) → H D = some (.lst acc) → Iv n H → Qd H) :
    ∃ W : Nat → Nat → Hp → Prop, (∃ m, W 0 m (upd H1 D (.lst []))) ∧ ∀ i m H, W i m H →
      (J.stop i H ∧ Qd H) ∨ (J.go i H ∧ ∃ Nx : Hp → Prop, (∀ H', Nx H' → ∃ m', m' < m ∧ W (i + 1) m' H') ∧ ∀ x H', J.yld i H x H' → g x (wipe σ vs) H' fun σ2 H2 => wipe σ2 vs = wipe σ vs ∧ tYes σ2 H2 fun b H3 =>
        if b = true then te σ2 H3 fun y H4 => ∃ acc, H4 D = some (.lst acc) ∧ acc.length < sizeLine ∧ Nx (upd H4 D (.lst (acc ++ [y]))) else Nx H3) := by
  refine lc_J (n := n) (fun i H => Iv i H ∧ ∃ acc, acc.length = i ∧ (∀ j v, acc[j]? = some v → Vp j v) ∧ H D = some (.lst acc)) ⟨h0, [], rfl, fun j v e => by simp at e, upd_same⟩ (fun i H hi p => hgo i H hi p.1) (fun H p => hstop H p.1) ?_ ?_
  · rintro i x H H' hi ⟨p, acc, hl, hv, e⟩ y
    refine hs i x H H' acc hi p e y _ fun v H4 e4 vp p4 => ⟨acc, e4, lt_line (by omega), stab _ _ _ _ p4 e4, acc ++ [v], by simp [hl], fun j u ej => ?_, upd_same⟩
    rw [List.getElem?_append] at ej
    split at ej
    · exact hv j u ej
    · have hj : j = i := by
        have := (List.getElem?_eq_some_iff.mp ej).1
        simp at this
        omega
      subst hj
      rw [hl, Nat.sub_self] at ej
      have : v = u := Option.some.inj ej
      exact this ▸ vp
  · rintro H ⟨p, acc, hl, hv, e⟩
    exact hd H acc hl hv e p
theorem all_true {acc : List V} {n : Nat} (hl : acc.length = n) (h : ∀ (i : Nat) v, acc[i]? = some v → v = .bl true) : acc = List.replicate n (.bl true) := by
  rw [← hl]
  exact List.eq_replicate_iff.mpr ⟨rfl, fun b hb => by
    obtain ⟨i, hi, e⟩ := List.getElem_of_mem hb
    exact h i b (by rw [List.getElem?_eq_getElem hi, e])⟩
section
variable {K : PySem.W.Frag} {H : Hp} {Q : VK} {σ : L2.St} {tA : TA}
theorem r_iRng1 {R : It → Hp → Prop} (h : tA σ H fun vs H1 => ∃ j, vs = [.int j] ∧ -(2 ^ 62) ≤ j ∧ j < 2 ^ 62 ∧ R (Itr 0 j.toNat) H1) : iRng1 tA σ H R := h
theorem r_iRng2 {R : It → Hp → Prop} (h : tA σ H fun vs H1 => ∃ i j : Int, vs = [.int i, .int j] ∧ (-(2 ^ 62) ≤ i ∧ i < 2 ^ 62 ∧ -(2 ^ 62) ≤ j ∧ j < 2 ^ 62) ∧ R (Itr i (j - i).toNat) H1) : iRng2 tA σ H R := h
theorem r_iZip {R : It → Hp → Prop} (h : tA σ H fun vs H1 => ∃ a b xs ys, vs = [.ref a, .ref b] ∧ ((SqL K H1 a xs ∧ SqL K H1 b ys ∧ R (Itz K a b) H1) ∨ (SqT K H1 a xs ∧ SqT K H1 b ys ∧ R (RZ.ItzT K a b) H1))) : RZ.iZipA K tA σ H R := h
theorem r_then {ta : TE} {k : V → Hp → VK → Prop} (h : ta σ H fun x H1 => k x H1 Q) : tThen ta k σ H Q := h
end
/-- told and due are the same data, nested so deep; bo: truth values, too -/
def Sc (bo : Bool) (x y : V) : Prop := (∃ i, x = .int i ∧ y = .int i) ∨ (∃ l, x = .str l ∧ y = .str l) ∨ (x = .non ∧ y = .non) ∨ (bo = true ∧ ∃ b, x = .bl b ∧ y = .bl b)
def Eqv (K : PySem.W.Frag) (H : Hp) (bo : Bool) : Nat → V → V → Prop
  | 0, x, y => Sc bo x y
  | n + 1, x, y => Sc bo x y ∨ ∃ a b xs ys, x = .ref a ∧ y = .ref b ∧ SqT K H a xs ∧ SqT K H b ys ∧ xs.length = ys.length ∧ xs.length ≤ 1000000 ∧ ∀ (i : Nat) (x y : V), xs[i]? = some x → ys[i]? = some y → Eqv K H bo n x y
section
variable {K : PySem.W.Frag} {H H' : Hp} {bo : Bool}
theorem Eqv.same (e : Same H H') : ∀ {n : Nat} {x y : V}, Eqv K H bo n x y → Eqv K H' bo n x y
  | 0, _, _, h => h
  | n + 1, x, y, h => by
    rcases h with h | ⟨a, b, xs, ys, h1, h2, h3, h4, h5, h6, h7⟩
    · exact .inl h
    · exact .inr ⟨a, b, xs, ys, h1, h2, Same.sqt e h3, Same.sqt e h4, h5, h6, fun i x y e1 e2 => Eqv.same e (h7 i x y e1 e2)⟩
theorem Eqv.sc {n : Nat} {x y : V} (h : Sc bo x y) : Eqv K H bo n x y := by
  cases n with
  | zero => exact h
  | succ n => exact .inl h
theorem Eqv.int {n : Nat} {i : Int} : Eqv K H bo n (.int i) (.int i) := Eqv.sc (.inl ⟨i, rfl, rfl⟩)
theorem Eqv.str {n : Nat} {l : Str} : Eqv K H bo n (.str l) (.str l) := Eqv.sc (.inr (.inl ⟨l, rfl, rfl⟩))
theorem Eqv.non {n : Nat} : Eqv K H bo n .non .non := Eqv.sc (.inr (.inr (.inl ⟨rfl, rfl⟩)))
theorem Eqv.bl {n : Nat} {b : Bool} : Eqv K H true n (.bl b) (.bl b) := Eqv.sc (.inr (.inr (.inr ⟨rfl, b, rfl, rfl⟩)))
theorem Eqv.tup {n : Nat} {a b : Addr} {xs ys : List V} (h3 : SqT K H a xs) (h4 : SqT K H b ys) (h5 : xs.length = ys.length) (h6 : xs.length ≤ 1000000)
    (h7 : ∀ (i : Nat) (x y : V), xs[i]? = some x → ys[i]? = some y → Eqv K H bo n x y) : Eqv K H bo (n + 1) (.ref a) (.ref b) := .inr ⟨a, b, xs, ys, rfl, rfl, h3, h4, h5, h6, h7⟩
/-- a tuple of which all items are plain, twice -/
theorem Eqv.flat {n : Nat} {a b : Addr} {xs : List V} (h3 : SqT K H a xs) (h4 : SqT K H b xs) (h6 : xs.length ≤ 1000000) (h7 : ∀ x ∈ xs, Sc bo x x) : Eqv K H bo (n + 1) (.ref a) (.ref b) :=
  Eqv.tup h3 h4 rfl h6 fun i x y e1 e2 => by
    have e : x = y := Option.some.inj (e1.symm.trans e2)
    subst e
    exact Eqv.sc (h7 x (List.mem_of_getElem? e1))
end
/-! ### s[::-1] -/
def rRev : V → Hp → VK → Prop := fun x H Q => ∃ z, x = .str z ∧ z.length ≤ sizeLine ∧ Q (.str ⟨z.cps.toList.reverse.toArray⟩) H
def tRevS (te : TE) : TE := fun σ H Q => te σ H fun x H1 => rRev x H1 Q
theorem rev_pick (z : Str) : ((Builtin.Str.strSliceIndices none none (-1) z.length).filterMap (z.cps[·]?)).toArray = z.cps.toList.reverse.toArray := by
  show ((sliceRange ((z.cps.size : Int) - 1) (-1) (-1)).filterMap (z.cps[·]?)).toArray = _
  rw [PySem.W.krv_sliceRange, PySem.W.krv_range, List.filterMap_reverse, PySem.W.krv_all]
theorem pe_revS {X : Cx} {e : Expr} {te : TE} {k : Nat} {p1 p2 p3 pos : Pos} (he : PE X e te) : PE X (.Subscript e (.Slice none none (some (.UnaryOp .USub (.Constant (.int 1) k p1) p2)) p3) pos) (tRevS te) := by
  refine ⟨fun pins s σ H Q I h => ?_⟩
  refine Subscript_ (thn (he.run pins s σ H _ I h) fun v s1 ⟨x, H1, I1, r1, q1⟩ => ?_)
  obtain ⟨z, rfl, hz, q⟩ := q1
  obtain ⟨t, rfl⟩ := r1
  have hst : PO X (some (.UnaryOp .USub (.Constant (.int 1) k p1) p2)) (tPart (tUn (rU fun i => .int (-i)) (tC (.int 1)))) := po_some (pe_un un_neg pe_int)
  refine wpAny_Slice (thn (po_none.run pins s1 σ H1 (fun o H2 => o = none ∧ H2 = H1) I1 ⟨rfl, rfl⟩) fun vl s2 ⟨l, H2, I2, pl, el, e2⟩ => ?_)
  subst el e2
  refine thn (po_none.run pins s2 σ H2 (fun o H3 => o = none ∧ H3 = H2) I2 ⟨rfl, rfl⟩) fun vu s3 ⟨u, H3, I3, pu, eu, e3⟩ => ?_
  subst eu e3
  refine thn (hst.run pins s3 σ H3 (fun o H4 => o = some (-1) ∧ H4 = H3) I3 ⟨1, rfl, -1, rfl, rfl, rfl⟩) fun vs s4 ⟨o, H4, I4, ps, eo, e4⟩ => ?_
  subst eo e4
  have I5 : Inv X pins σ H4 { s4 with heap := s4.heap.push { cls := .type "slice", data := .fields #[vl, vu, vs] } } := I4.kept (t' := s4.toks) fun b ob q => Heap.get?_push_of_some _ q
  obtain ⟨l, rfl, hl⟩ := IsPart.raw pl
  obtain ⟨u, rfl, hu⟩ := IsPart.raw pu
  obtain ⟨st, rfl, hs⟩ := IsPart.raw ps
  have hz2 : (⟨((Builtin.Str.strSliceIndices none none (-1) z.length).filterMap (z.cps[·]?)).toArray⟩ : Str).length ≤ sizeLine := by
    rw [rev_pick]
    show (z.cps.toList.reverse.toArray).size ≤ sizeLine
    rw [List.size_toArray, List.length_reverse, Array.length_toList]
    exact hz
  rw [← rev_pick] at q
  refine tail_any (ops := [.ref s4.heap.objs.size, .str z t]) (typeIs_str _ _ _) (F.slot_str_getitem.lookup) ?_ (by with_unfolding_all rfl)
  refine wpAny_getItem_str_slice (l := l) (u := u) (st := st) ⟨_, Heap.get?_push_size _ rfl, rfl, rfl⟩ (by rw [hs]; decide) ?_
  unfold sliceMade
  rw [hs]
  rw [if_neg (by simp)]
  unfold slicePicked
  rw [hs, hl, hu]
  exact ⟨hz2, .str _, _, I5.tok _, ⟨_, rfl⟩, q⟩
/-! ### the head -/
abbrev AlX : Type := He.AlD × Bool
def obsX (n : Nat) (fa : List He.Fa) (fn : List He.DefD) (ex : PySem.W.Frag → Bool) (g : Addr → Option Obj) : AlX := (He.obsDG n fa fn g, ex (He.frG g (He.asD g n)))
def hookX (n : Nat) (fa : List He.Fa) (fn : List He.DefD) (ex : PySem.W.Frag → Bool) : PySem.W.Hook where
  α := AlX
  obs := fun s => obsX n fa fn ex s.heap.get?
  val := fun _ => (He.valD fn, true)
  says := fun _ h => ∃ K : PySem.W.Frag, K.In h ∧ He.SaysD fa fn K ∧ ex K = true
  of := fun _ _ e => ⟨_, He.frG_in, congrArg (fun z : AlX => z.1) e, congrArg (fun z : AlX => z.2) e⟩
  keeps := fun _ _ _ ⟨K, hK, c⟩ k => ⟨K, PySem.W.Frag.In.keeps hK k, c⟩
theorem obsX_eq {n : Nat} {fa : List He.Fa} {fn : List He.DefD} {ex : PySem.W.Frag → Bool} {g : Addr → Option Obj} {s : Shared} (h : ∀ a, g a = s.heap.get? a) : obsX n fa fn ex g = (hookX n fa fn ex).obs s := by
  have e : g = s.heap.get? := funext h
  rw [e] <;> rfl
theorem Ok.at {P : Program} {w : World} {K : PySem.W.Frag} {mg : Str → Option Value} {base : Heap} {CX : CXT} {k : Nat} {x : Str} {st : Stmt} {ps : List Str} {sp : Sp} (o : Ok P w K mg base CX k x st ps sp) {f : Addr} {fd : FuncData} (g : mg x = some (.ref f)) (D : FnP K x st f fd) :
    FnOk P w K mg base CX k f fd ps sp := by
  obtain ⟨f', fd', g', D', b, F⟩ := o.ex
  rw [g] at g'
  cases g'
  obtain ⟨_, _, _, _, _, _, _, _, _, _, e1, l1, _⟩ := D.ex
  obtain ⟨_, _, _, _, _, _, _, _, _, _, e2, l2, _⟩ := D'.ex
  rw [l1] at l2
  have e : fd = fd' := by
    injection l2 with l2
    injection l2 with _ _ l2
    injection l2
  subst e
  exact F
end Tf

set_option linter.all false
set_option maxRecDepth 100000
set_option maxHeartbeats 2000000
/-! mathematics of words, places, numbers -/
namespace Tf
open PySem L2
/-- where a fate stands behind a place -/
def ix (p : Int) (c : Nat) : Nat := if p % 2 = 0 then (if c = 115 then 0 else if c = 110 then 1 else 2) else (if c = 102 then 0 else if c = 110 then 1 else 2)
def pst (p : Int) (c : Nat) : Int := 3 * p + (ix p c : Nat)
def pl (l : List Nat) : Int := l.foldl pst 0
def nu (p : Int) : Int × Int := if p % 2 = 0 then (p, p + 1) else (p + 1, p)
theorem pl_snoc (l : List Nat) (c : Nat) : pl (l ++ [c]) = pst (pl l) c := by unfold pl; rw [List.foldl_append]; rfl
theorem take_snoc {l : List Nat} {i c : Nat} (e : l[i]? = some c) : l.take (i + 1) = l.take i ++ [c] := by rw [List.take_add_one, e]; rfl
theorem behind_ix (p : Int) {c : Nat} (h : c = 110 ∨ c = 102 ∨ c = 115) : ∃ z : List Nat, atI [V.str (S [115, 110, 102]), V.str (S [102, 110, 115])] (p % 2) = some (.str (S z)) ∧ ∃ rest, Builtin.Str.occurrences (S z) (S [c]) 0 (S z).length 1 = ix p c :: rest := by
  rcases (show p % 2 = 0 ∨ p % 2 = 1 by omega) with e | e
  · refine ⟨[115, 110, 102], by rw [e]; rfl, ?_⟩
    rcases h with rfl | rfl | rfl
    · exact ⟨[], by unfold ix; rw [if_pos e]; decide +kernel⟩
    · exact ⟨[], by unfold ix; rw [if_pos e]; decide +kernel⟩
    · exact ⟨[], by unfold ix; rw [if_pos e]; decide +kernel⟩
  · refine ⟨[102, 110, 115], by rw [e]; rfl, ?_⟩
    have e' : ¬ p % 2 = 0 := by omega
    rcases h with rfl | rfl | rfl
    · exact ⟨[], by unfold ix; rw [if_neg e']; decide +kernel⟩
    · exact ⟨[], by unfold ix; rw [if_neg e']; decide +kernel⟩
    · exact ⟨[], by unfold ix; rw [if_neg e']; decide +kernel⟩
/-- hearing -/
def hst (q : Int × Int) (c : Nat) : Int × Int := (if c = 115 then 3 * q.1 else q.1 + 2 * q.2, if c = 102 then 3 * q.2 else q.2 + 2 * q.1)
theorem hst_nu (p : Int) {c : Nat} (h : c = 110 ∨ c = 102 ∨ c = 115) : hst (nu p) c = nu (pst p c) := by
  unfold hst nu pst ix
  rcases (show p % 2 = 0 ∨ p % 2 = 1 by omega) with e | e
  · rcases h with rfl | rfl | rfl <;> simp [e] <;> split <;> simp <;> omega
  · rcases h with rfl | rfl | rfl <;> simp [e] <;> split <;> simp <;> omega
theorem ix_le (p : Int) (c : Nat) : ix p c ≤ 2 := by unfold ix; split <;> split <;> (try split) <;> omega
theorem pl_nn (l : List Nat) : 0 ≤ pl l := by
  have key : ∀ (l : List Nat) (p : Int), 0 ≤ p → 0 ≤ l.foldl pst p := by
    intro l
    induction l with
    | nil => intro p h; exact h
    | cons c l ih => intro p h; rw [List.foldl_cons]; exact ih _ (by unfold pst; omega)
  exact key l 0 (by decide)
theorem pl_lt (l : List Nat) : pl l < 3 ^ l.length := by
  have key : ∀ (l : List Nat) (p m : Int), p < m → 0 ≤ p → l.foldl pst p < m * 3 ^ l.length := by
    intro l
    induction l with
    | nil => intro p m h _; simpa using h
    | cons c l ih =>
      intro p m h h0
      rw [List.foldl_cons, List.length_cons, Int.pow_succ]
      have h1 := ix_le p c
      have := ih (pst p c) (3 * m) (by unfold pst; omega) (by unfold pst; omega)
      have e : 3 * m * 3 ^ l.length = m * (3 ^ l.length * 3) := by rw [Int.mul_comm (3 ^ l.length) 3, ← Int.mul_assoc, Int.mul_comm m 3]
      rw [← e]
      exact this
  have := key l 0 1 (by decide) (by decide)
  rw [Int.one_mul] at this
  exact this
theorem pow3_pos (n : Nat) : (0 : Int) < 3 ^ n := Int.pow_pos (by decide)
theorem pow3_odd (n : Nat) : (3 : Int) ^ n % 2 = 1 := by
  induction n with
  | zero => rfl
  | succ n ih => rw [Int.pow_succ]; omega
/-- the left end -/
theorem pl_zero (l : List Nat) (h : Wd l) : pl l = 0 ↔ l = List.replicate l.length 115 := by
  have key : ∀ (l : List Nat), Wd l → ∀ p : Int, 0 ≤ p → (l.foldl pst p = 0 ↔ p = 0 ∧ l = List.replicate l.length 115) := by
    intro l
    induction l with
    | nil => intro _ p hp; simp
    | cons c l ih =>
      intro hw p hp
      have hc := hw c List.mem_cons_self
      have hl : Wd l := fun x hx => hw x (List.mem_cons_of_mem _ hx)
      have h0 : 0 ≤ pst p c := by unfold pst; omega
      rw [List.foldl_cons, ih hl _ h0, List.length_cons, List.replicate_succ, List.cons.injEq]
      have : pst p c = 0 ↔ p = 0 ∧ c = 115 := by
        constructor
        · intro e
          have hp0 : p = 0 := by unfold pst at e; omega
          subst hp0
          refine ⟨rfl, ?_⟩
          unfold pst ix at e
          rcases hc with rfl | rfl | rfl
          · exact absurd e (by decide)
          · exact absurd e (by decide)
          · rfl
        · rintro ⟨rfl, rfl⟩
          decide
      rw [this, and_assoc]
  have := key l h 0 (by decide)
  unfold pl
  rw [this]
  simp
/-- the right end -/
theorem pl_top (l : List Nat) (h : Wd l) : pl l = 3 ^ l.length - 1 ↔ l = List.replicate l.length 102 := by
  have key : ∀ (l : List Nat), Wd l → ∀ p m : Int, 0 ≤ p → p ≤ m → m % 2 = 0 → (l.foldl pst p = (m + 1) * 3 ^ l.length - 1 ↔ p = m ∧ l = List.replicate l.length 102) := by
    intro l
    induction l with
    | nil => intro _ p m _ _ _; simp
    | cons c l ih =>
      intro hw p m hp hm he
      have hc := hw c List.mem_cons_self
      have hl : Wd l := fun x hx => hw x (List.mem_cons_of_mem _ hx)
      have h0 : 0 ≤ pst p c := by unfold pst; omega
      have h1 := ix_le p c
      have h2 : pst p c ≤ 3 * m + 2 := by unfold pst; omega
      have e1 : (m + 1) * 3 ^ (l.length + 1) - 1 = (3 * m + 2 + 1) * 3 ^ l.length - 1 := by
        rw [Int.pow_succ, Int.mul_comm (3 ^ l.length) 3, ← Int.mul_assoc, show (m + 1) * 3 = 3 * m + 2 + 1 by omega]
      rw [List.foldl_cons, List.length_cons, e1, ih hl _ (3 * m + 2) h0 h2 (by omega), List.replicate_succ, List.cons.injEq]
      have : pst p c = 3 * m + 2 ↔ p = m ∧ c = 102 := by
        constructor
        · intro e
          have hp0 : p = m := by unfold pst at e; omega
          subst hp0
          refine ⟨rfl, ?_⟩
          unfold pst ix at e
          rw [if_pos he] at e
          rcases hc with rfl | rfl | rfl
          · simp at e
          · rfl
          · simp at e; omega
        · rintro ⟨rfl, rfl⟩
          unfold pst ix
          rw [if_pos he]
          simp
      rw [this, and_assoc]
  have := key l h 0 0 (by decide) (by decide) (by decide)
  unfold pl
  simp only [Int.zero_add, Int.one_mul] at this
  rw [this]
  simp
theorem fate_of {x : V} (h : x ∈ ([110, 102, 115] : List Nat).map fun c => V.str (S [c])) : ∃ c : Nat, x = .str (S [c]) ∧ (c = 110 ∨ c = 102 ∨ c = 115) := by
  simp only [List.map_cons, List.map_nil, List.mem_cons, List.not_mem_nil, or_false] at h
  rcases h with rfl | rfl | rfl
  · exact ⟨110, rfl, by decide⟩
  · exact ⟨102, rfl, by decide⟩
  · exact ⟨115, rfl, by decide⟩
theorem chars_of : ∀ {acc : List V}, (∀ (i : Nat) (v : V), acc[i]? = some v → ∃ c : Nat, v = .str (S [c]) ∧ (c = 110 ∨ c = 102 ∨ c = 115)) → ∃ l : List Nat, acc = l.map (fun c => V.str (S [c])) ∧ Wd l ∧ l.length = acc.length
  | [], _ => ⟨[], rfl, Wd.nil, rfl⟩
  | v :: r, h => by
    obtain ⟨c, rfl, hc⟩ := h 0 v rfl
    obtain ⟨l, e1, e2, e3⟩ := chars_of (acc := r) fun i u e => h (i + 1) u e
    exact ⟨c :: l, by rw [e1]; rfl, fun x hx => by
      rcases List.mem_cons.mp hx with rfl | hx
      · exact hc
      · exact e2 x hx, by rw [List.length_cons, List.length_cons, e3]⟩
theorem flat_one : ∀ l : List Nat, (l.map fun c => [c]).flatten = l
  | [] => rfl
  | c :: l => by rw [List.map_cons, List.flatten_cons, flat_one l]; rfl
theorem r_joinC {K : PySem.W.Frag} {H : Hp} {Q : VK} {p : Addr} {l : List Nat} (hs : SqL K H p (l.map fun c => V.str (S [c]))) (hz : l.length ≤ 1000000) (q : Q (.str (S l)) H) : rJoin K (.str (S [])) [.ref p] H Q :=
  r_join (ys := l.map fun c => [c]) (by rw [List.map_map]; exact hs) (by rw [flat_one]; exact hz) (by rw [flat_one]; exact q)
theorem cut_take (l : List Nat) (n : Nat) : cutS (S l) none (some (n : Int)) = S (l.take n) := by
  by_cases h : n ≤ l.length
  · exact cut_to h
  · rw [cut_S, HT.sIx_nat, HT.sIx_none, List.take_of_length_le (show l.length ≤ n by omega)]
    simp
    congr 1
    exact List.take_of_length_le (by omega)
theorem rep_one (n c : Nat) : (List.replicate n [c]).flatten = List.replicate n c := by
  induction n with
  | zero => rfl
  | succ n ih => rw [List.replicate_succ, List.flatten_cons, ih, List.replicate_succ]; rfl
end Tf

set_option linter.all false
set_option maxRecDepth 100000
set_option maxHeartbeats 2000000
/-! mathematics of losses: endless rows that come again -/
namespace Tf
open PySem L2
/-- the row of head and ring -/
def rw (h r : List Nat) (i : Nat) : Nat := if i < h.length then h.getD i 0 else r.getD ((i - h.length) % r.length) 0
/-- f comes again after p, from m on -/
def Per (f : Nat → Nat) (m p : Nat) : Prop := ∀ i, m ≤ i → f (i + p) = f i
def seg (f : Nat → Nat) (a n : Nat) : List Nat := (List.range n).map fun j => f (a + j)
theorem seg_len (f : Nat → Nat) (a n : Nat) : (seg f a n).length = n := by simp [seg]
theorem seg_get {f : Nat → Nat} {a n i : Nat} (h : i < n) : (seg f a n)[i]? = some (f (a + i)) := by
  unfold seg
  rw [List.getElem?_map, List.getElem?_range h] <;> rfl
theorem seg_getD {f : Nat → Nat} {a n i : Nat} (h : i < n) : (seg f a n).getD i 0 = f (a + i) := by
  rw [List.getD_eq_getElem?_getD, seg_get h] <;> rfl
theorem seg_ext {f g : Nat → Nat} {a b n : Nat} (h : ∀ i, i < n → f (a + i) = g (b + i)) : seg f a n = seg g b n := by
  unfold seg
  exact List.map_congr_left fun i hi => h i (List.mem_range.mp hi)
theorem seg_inj {f g : Nat → Nat} {a b n : Nat} (h : seg f a n = seg g b n) : ∀ i, i < n → f (a + i) = g (b + i) := fun i hi => by
  have e := congrArg (fun l : List Nat => l[i]?) h
  simp only [seg_get hi] at e
  exact Option.some.inj e
theorem seg_take {f : Nat → Nat} {a n m : Nat} (h : m ≤ n) : (seg f a n).take m = seg f a m := by
  apply List.ext_getElem?
  intro i
  by_cases hi : i < m
  · rw [List.getElem?_take_of_lt hi, seg_get (by omega), seg_get hi]
  · rw [List.getElem?_eq_none (by rw [List.length_take, seg_len]; omega), List.getElem?_eq_none (by rw [seg_len]; omega)]
theorem seg_drop {f : Nat → Nat} {a n m : Nat} : (seg f a n).drop m = seg f (a + m) (n - m) := by
  apply List.ext_getElem?
  intro i
  rw [List.getElem?_drop]
  by_cases hi : i < n - m
  · rw [seg_get (by omega), seg_get hi, Nat.add_assoc]
  · rw [List.getElem?_eq_none (by rw [seg_len]; omega), List.getElem?_eq_none (by rw [seg_len]; omega)]
theorem seg_self (l : List Nat) : l = seg (fun i => l.getD i 0) 0 l.length := by
  apply List.ext_getElem?
  intro i
  by_cases hi : i < l.length
  · rw [seg_get hi, Nat.zero_add, List.getD_eq_getElem?_getD, List.getElem?_eq_getElem hi] <;> rfl
  · rw [List.getElem?_eq_none (by omega), List.getElem?_eq_none (by rw [seg_len]; omega)]
theorem seg_app {f : Nat → Nat} {a n m : Nat} : seg f a n ++ seg f (a + n) m = seg f a (n + m) := by
  apply List.ext_getElem?
  intro i
  rw [List.getElem?_append, seg_len]
  split
  · rename_i h
    rw [seg_get h, seg_get (by omega)]
  · rename_i h
    by_cases hi : i < n + m
    · rw [seg_get (by omega), seg_get hi]
      congr 2
      omega
    · rw [List.getElem?_eq_none (by rw [seg_len]; omega), List.getElem?_eq_none (by rw [seg_len]; omega)]

theorem Per.mono {f : Nat → Nat} {m m' p : Nat} (h : Per f m p) (hm : m ≤ m') : Per f m' p := fun i hi => h i (by omega)
theorem Per.mul {f : Nat → Nat} {m p : Nat} (h : Per f m p) : ∀ k, Per f m (p * k)
  | 0 => fun i _ => rfl
  | k + 1 => fun i hi => by
    have e := Per.mul h k (i + p) (by omega)
    rw [Nat.mul_succ, show i + (p * k + p) = i + p + p * k by omega, e]
    exact h i hi
theorem rw_lt {h r : List Nat} {i : Nat} (e : i < h.length) : rw h r i = h.getD i 0 := if_pos e
theorem rw_ge {h r : List Nat} {i : Nat} (e : h.length ≤ i) : rw h r i = r.getD ((i - h.length) % r.length) 0 := if_neg (by omega)
theorem rw_per (h r : List Nat) : Per (rw h r) h.length r.length := fun i hi => by
  rw [rw_ge (by omega), rw_ge hi, show i + r.length - h.length = i - h.length + r.length by omega, Nat.add_mod_right]
/-- a row that comes again is told by its beginning -/
theorem per_rw {f : Nat → Nat} {m p : Nat} (h : Per f m p) (hp : 0 < p) : rw (seg f 0 m) (seg f m p) = f := by
  funext i
  by_cases hi : i < m
  · rw [rw_lt (by rw [seg_len]; exact hi), seg_getD hi, Nat.zero_add]
  · rw [rw_ge (by rw [seg_len]; omega), seg_len, seg_len, seg_getD (Nat.mod_lt _ hp)]
    have e := h.mul ((i - m) / p) (m + (i - m) % p) (by omega)
    rw [← e]
    congr 1
    have := Nat.mod_add_div (i - m) p
    omega
theorem rw_head (h r : List Nat) : seg (rw h r) 0 h.length = h := by
  conv => rhs; rw [seg_self h]
  exact seg_ext fun i hi => by rw [Nat.zero_add]; exact rw_lt hi
theorem rw_ring (h r : List Nat) : seg (rw h r) h.length r.length = r := by
  conv => rhs; rw [seg_self r]
  exact seg_ext fun i hi => by
    rw [rw_ge (by omega), Nat.zero_add, Nat.add_sub_cancel_left, Nat.mod_eq_of_lt hi]
/-- two rows that agree so far agree for ever -/
theorem fine_wilf {f g : Nat → Nat} {m p q : Nat} (hf : Per f m p) (hg : Per g m q) (hp : 0 < p) (hq : 0 < q) (e : ∀ i, i < m + p + q → f i = g i) : f = g := by
  funext i
  induction i using Nat.strongRecOn with
  | _ i ih =>
    by_cases hi : i < m + p + q
    · exact e i hi
    · have f1 : f i = f (i - p) := by
        have := hf (i - p) (by omega)
        rwa [show i - p + p = i by omega] at this
      have g1 : g i = g (i - q) := by
        have := hg (i - q) (by omega)
        rwa [show i - q + q = i by omega] at this
      have f2 : f (i - q) = f (i - q - p) := by
        have := hf (i - q - p) (by omega)
        rwa [show i - q - p + p = i - q by omega] at this
      have g2 : g (i - p) = g (i - p - q) := by
        have := hg (i - p - q) (by omega)
        rwa [show i - p - q + q = i - p by omega] at this
      rw [f1, ih (i - p) (by omega), g2, show i - p - q = i - q - p by omega, ← ih (i - q - p) (by omega), ← f2, ih (i - q) (by omega), ← g1]
/-- the least: the shortest head, then the shortest ring -/
structure IsMin (f : Nat → Nat) (m p : Nat) : Prop where
  pos : 0 < p
  per : Per f m p
  head : ∀ m' p', 0 < p' → Per f m' p' → m ≤ m'
  ring : ∀ p', 0 < p' → Per f m p' → p ≤ p'
theorem IsMin.uniq {f : Nat → Nat} {m p m' p' : Nat} (a : IsMin f m p) (b : IsMin f m' p') : m = m' ∧ p = p' := by
  have e : m = m' := Nat.le_antisymm (a.head _ _ b.pos b.per) (b.head _ _ a.pos a.per)
  subst e
  exact ⟨rfl, Nat.le_antisymm (a.ring _ b.pos b.per) (b.ring _ a.pos a.per)⟩
theorem per_down {f : Nat → Nat} {m m' p q : Nat} (hp : Per f m p) (h0 : 0 < p) (hq : Per f m' q) : Per f m q := fun i hi => by
  have e1 := hp.mul m' i hi
  have e2 := hp.mul m' (i + q) (by omega)
  have : m' ≤ i + p * m' := by
    have : 1 * m' ≤ p * m' := Nat.mul_le_mul_right _ h0
    omega
  have e3 := hq (i + p * m') this
  rw [← e2, ← e1, ← e3]
  congr 1
  omega
theorem IsMin.le {f : Nat → Nat} {m p m' p' : Nat} (a : IsMin f m p) (h0 : 0 < p') (h : Per f m' p') : m ≤ m' ∧ p ≤ p' := ⟨a.head _ _ h0 h, a.ring _ h0 (per_down a.per a.pos h)⟩
theorem least_ex {P : Nat → Prop} (n : Nat) (h : P n) : ∃ m, P m ∧ ∀ k, P k → m ≤ k := by
  induction n using Nat.strongRecOn with
  | _ n ih =>
    by_cases e : ∃ k, k < n ∧ P k
    · obtain ⟨k, hk, pk⟩ := e
      exact ih k hk pk
    · exact ⟨n, h, fun k pk => by
        by_cases hk : k < n
        · exact absurd ⟨k, hk, pk⟩ e
        · omega⟩
/-- of all periods the least one goes into each -/
theorem per_dvd {f : Nat → Nat} {m p q : Nat} (h0 : 0 < p) (hp : Per f m p) (hl : ∀ p', 0 < p' → Per f m p' → p ≤ p') (hq : Per f m q) : p ∣ q := by
  have h : Per f m (q % p) := fun i hi => by
    have e := hp.mul (q / p) (i + q % p) (by omega)
    rw [show i + q % p + p * (q / p) = i + q by have := Nat.mod_add_div q p; omega] at e
    rw [← e]
    exact hq i hi
  by_cases z : q % p = 0
  · exact Nat.dvd_of_mod_eq_zero z
  · have := hl _ (Nat.pos_of_ne_zero z) h
    have := Nat.mod_lt q h0
    omega
/-- the letters of a loss, as the row -/
theorem letters_seg {h r : List Nat} {n k : Nat} (hr : 0 < r.length) (hn : n ≤ h.length + k * r.length) : (h ++ (List.replicate k r).flatten).take n = seg (rw h r) 0 n := by
  have key : ∀ k, h ++ (List.replicate k r).flatten = seg (rw h r) 0 (h.length + k * r.length) := by
    intro k
    induction k with
    | zero =>
      rw [Nat.zero_mul, Nat.add_zero, rw_head]
      simp
    | succ k ih =>
      rw [List.replicate_succ', List.flatten_append, ← List.append_assoc, ih, List.flatten_cons, List.flatten_nil, List.append_nil]
      have e : seg (rw h r) (0 + (h.length + k * r.length)) r.length = r := by
        conv => rhs; rw [← rw_ring h r]
        exact seg_ext fun i hi => by
          rw [show 0 + (h.length + k * r.length) + i = h.length + i + r.length * k by rw [Nat.mul_comm]; omega]
          exact (rw_per h r).mul k _ (by omega)
      rw [Nat.succ_mul, ← Nat.add_assoc]
      conv => lhs; rhs; rw [← e]
      exact seg_app
  rw [key k]
  exact seg_take hn
theorem rep_len_mul (k : Nat) (r : List Nat) : (List.replicate k r).flatten.length = k * r.length := by
  induction k with
  | zero => simp
  | succ k ih => rw [List.replicate_succ, List.flatten_cons, List.length_append, ih, Nat.succ_mul, Nat.add_comm]
theorem per_mod {f : Nat → Nat} {p : Nat} (h : Per f 0 p) (i : Nat) : f i = f (i % p) := by
  have e := h.mul (i / p) (i % p) (Nat.zero_le _)
  rw [Nat.mod_add_div] at e
  exact e
theorem seg_nil (f : Nat → Nat) (a : Nat) : seg f a 0 = [] := rfl
theorem take_seg (r : List Nat) {d : Nat} (h : d ≤ r.length) : r.take d = seg (rw [] r) 0 d := by
  conv => lhs; rw [← rw_ring [] r]
  exact seg_take h
theorem ring_check {r : List Nat} {d : Nat} (h0 : 0 < d) (h1 : d ≤ r.length) : (List.replicate (r.length / d) (r.take d)).flatten = r ↔ (Per (rw [] r) 0 d ∧ d ∣ r.length) := by
  have hl : (r.take d).length = d := by rw [List.length_take]; omega
  have e1 : (List.replicate (r.length / d) (r.take d)).flatten = seg (rw [] (r.take d)) 0 (r.length / d * d) := by
    have := letters_seg (h := []) (r := r.take d) (n := r.length / d * d) (k := r.length / d) (by omega) (by rw [hl]; simp)
    rw [← this, List.nil_append]
    exact (List.take_of_length_le (by rw [rep_len_mul, hl]; exact Nat.le_refl _)).symm
  constructor
  · intro e
    have el := congrArg List.length e
    rw [rep_len_mul, hl] at el
    have dv : d ∣ r.length := ⟨r.length / d, by rw [Nat.mul_comm]; exact el.symm⟩
    refine ⟨?_, dv⟩
    rw [e1, el] at e
    have e2 := e.trans (rw_ring [] r).symm
    have pg : Per (rw [] (r.take d)) 0 d := by
      have := rw_per [] (r.take d)
      rw [hl] at this
      exact this
    have pg2 : Per (rw [] (r.take d)) 0 r.length := by
      have := pg.mul (r.length / d)
      rwa [Nat.mul_comm, el] at this
    have pf : Per (rw [] r) 0 r.length := rw_per [] r
    have ef : rw [] r = rw [] (r.take d) := by
      funext i
      rw [per_mod pf i, per_mod pg2 i]
      have := seg_inj e2 (i % r.length) (Nat.mod_lt _ (by omega))
      simpa using this.symm
    rw [ef]
    exact pg
  · rintro ⟨pf, k, hk⟩
    have ek : r.length / d * d = r.length := by rw [hk, Nat.mul_comm d k, Nat.mul_div_cancel _ h0]
    have ef : rw [] (r.take d) = rw [] r := by
      rw [take_seg r h1]
      have := per_rw pf h0
      rw [seg_nil] at this
      exact this
    rw [e1, ek, ef]
    exact rw_ring [] r
/-- from the head on only the ring tells -/
theorem per_tail {h r : List Nat} {q : Nat} : Per (rw h r) h.length q ↔ Per (rw [] r) 0 q := by
  have key : ∀ i, rw h r (h.length + i) = rw [] r i := fun i => by
    rw [rw_ge (by omega), rw_ge (Nat.zero_le i), Nat.add_sub_cancel_left]
    rfl
  constructor
  · intro p i _
    have := p (h.length + i) (by omega)
    rwa [Nat.add_assoc, key, key] at this
  · intro p i hi
    obtain ⟨j, rfl⟩ : ∃ j, i = h.length + j := ⟨i - h.length, by omega⟩
    rw [Nat.add_assoc, key, key]
    exact p j (Nat.zero_le _)
/-- head and ring while the head is made shorter -/
structure LInv (f : Nat → Nat) (a b : List Nat) : Prop where
  row : rw a b = f
  pos : 0 < b.length
  least : ∀ p', 0 < p' → Per f a.length p' → b.length ≤ p'
theorem short_pos {r : List Nat} {p : Nat} (hr : 0 < r.length) (m : IsMin (rw [] r) 0 p) : p ≤ r.length := m.ring _ hr (rw_per [] r)
theorem linv_start {h r : List Nat} {p : Nat} (hr : 0 < r.length) (m : IsMin (rw [] r) 0 p) : LInv (rw h r) h (r.take p) := by
  have hp := short_pos hr m
  have hl : (r.take p).length = p := by rw [List.length_take]; omega
  have ef : rw [] (r.take p) = rw [] r := by
    rw [take_seg r hp]
    have := per_rw m.per m.pos
    rw [seg_nil] at this
    exact this
  refine ⟨?_, by rw [hl]; exact m.pos, fun p' h0 hq => by rw [hl]; exact m.ring p' h0 (per_tail.mp hq)⟩
  funext i
  by_cases hi : i < h.length
  · rw [rw_lt hi, rw_lt hi]
  · have e := congrFun ef (i - h.length)
    rw [rw_ge (Nat.zero_le _), rw_ge (Nat.zero_le _)] at e
    rw [rw_ge (by omega), rw_ge (by omega)]
    exact e
theorem linv_step {f : Nat → Nat} {a b : List Nat} {c : Nat} (v : LInv f (a ++ [c]) (b ++ [c])) : LInv f a (c :: b) := by
  have e1 := rw_head (a ++ [c]) (b ++ [c])
  have e2 := rw_ring (a ++ [c]) (b ++ [c])
  have pf := rw_per (a ++ [c]) (b ++ [c])
  rw [v.row] at e1 e2 pf
  have la : (a ++ [c]).length = a.length + 1 := by simp
  have lb : (b ++ [c]).length = b.length + 1 := by simp
  rw [la] at e1 e2 pf
  rw [lb] at e2 pf
  have fa : f a.length = c := by
    have := congrArg (fun l : List Nat => l[a.length]?) e1
    simp only [seg_get (show a.length < a.length + 1 by omega), Nat.zero_add] at this
    rw [List.getElem?_append_right (Nat.le_refl _)] at this
    simpa using this
  have fb : f (a.length + 1 + b.length) = c := by
    have := congrArg (fun l : List Nat => l[b.length]?) e2
    simp only [seg_get (show b.length < b.length + 1 by omega)] at this
    rw [List.getElem?_append_right (Nat.le_refl _)] at this
    simpa using this
  have pf2 : Per f a.length (b.length + 1) := fun i hi => by
    by_cases h : i = a.length
    · subst h
      rw [show a.length + (b.length + 1) = a.length + 1 + b.length by omega, fb, fa]
    · exact pf i (by omega)
  have s1 : seg f 0 a.length = a := by
    have := congrArg (fun l : List Nat => l.take a.length) e1
    simp only [seg_take (show a.length ≤ a.length + 1 by omega)] at this
    simpa using this
  have s2 : seg f a.length (b.length + 1) = c :: b := by
    have h1 : seg f a.length 1 ++ seg f (a.length + 1) b.length = seg f a.length (1 + b.length) := seg_app
    rw [Nat.add_comm b.length 1, ← h1]
    have h2 : seg f a.length 1 = [c] := by simp [seg, fa]
    have h3 := congrArg (fun l : List Nat => l.take b.length) e2
    simp only [seg_take (show b.length ≤ b.length + 1 by omega)] at h3
    rw [h2, h3]
    simp
  have row := per_rw pf2 (by omega)
  rw [s1, s2] at row
  refine ⟨row, by simp, fun p' h0 hq => ?_⟩
  have := v.least p' h0 (hq.mono (by simp))
  simpa using this
theorem linv_end {f : Nat → Nat} {a b : List Nat} (v : LInv f a b) (h : a = [] ∨ ∃ a' b' x y, a = a' ++ [x] ∧ b = b' ++ [y] ∧ x ≠ y) : IsMin f a.length b.length := by
  have pf := rw_per a b
  rw [v.row] at pf
  refine ⟨v.pos, pf, fun m' p' h0 hq => ?_, v.least⟩
  rcases h with rfl | ⟨a', b', x, y, rfl, rfl, ne⟩
  · exact Nat.zero_le _
  · refine Nat.le_of_not_lt fun hlt => ne ?_
    have la : (a' ++ [x]).length = a'.length + 1 := by simp
    have lb : (b' ++ [y]).length = b'.length + 1 := by simp
    have e1 := rw_head (a' ++ [x]) (b' ++ [y])
    have e2 := rw_ring (a' ++ [x]) (b' ++ [y])
    have dv := per_dvd (q := p') v.pos pf v.least (hq.mono (by omega))
    rw [v.row] at e1 e2
    rw [la] at e1 e2 pf hlt
    rw [lb] at e2 pf dv
    have fa : f a'.length = x := by
      have := congrArg (fun l : List Nat => l[a'.length]?) e1
      simp only [seg_get (show a'.length < a'.length + 1 by omega), Nat.zero_add] at this
      rw [List.getElem?_append_right (Nat.le_refl _)] at this
      simpa using this
    have fb : f (a'.length + 1 + b'.length) = y := by
      have := congrArg (fun l : List Nat => l[b'.length]?) e2
      simp only [seg_get (show b'.length < b'.length + 1 by omega)] at this
      rw [List.getElem?_append_right (Nat.le_refl _)] at this
      simpa using this
    obtain ⟨k, rfl⟩ := dv
    obtain ⟨j, rfl⟩ : ∃ j, k = j + 1 := ⟨k - 1, by
      have : k ≠ 0 := fun z => by subst z; simp at h0
      omega⟩
    have e3 := hq a'.length (by omega)
    have e4 := pf.mul j (a'.length + 1 + b'.length) (by omega)
    rw [← fa, ← fb, ← e4, ← e3]
    congr 1
    rw [Nat.mul_succ]
    omega
/-- a, b is the least form of h, r -/
structure Least (h r a b : List Nat) : Prop where
  row : rw a b = rw h r
  min : IsMin (rw h r) a.length b.length
theorem Least.of {h r a b : List Nat} (v : LInv (rw h r) a b) (e : a = [] ∨ ∃ a' b' x y, a = a' ++ [x] ∧ b = b' ++ [y] ∧ x ≠ y) : Least h r a b := ⟨v.row, linv_end v e⟩
theorem Least.uniq {h r h' r' a b a' b' : List Nat} (e : rw h r = rw h' r') (x : Least h r a b) (y : Least h' r' a' b') : a = a' ∧ b = b' := by
  have y2 := y.min
  rw [← e] at y2
  obtain ⟨e1, e2⟩ := x.min.uniq y2
  have r1 := rw_head a b
  have r2 := rw_head a' b'
  have r3 := rw_ring a b
  have r4 := rw_ring a' b'
  rw [x.row] at r1 r3
  rw [y.row, ← e] at r2 r4
  exact ⟨by rw [← r1, ← r2, e1], by rw [← r3, ← r4, e1, e2]⟩
theorem Least.bound {h r a b : List Nat} (hr : 0 < r.length) (x : Least h r a b) : a.length ≤ h.length ∧ b.length ≤ r.length ∧ 0 < b.length :=
  let ⟨h1, h2⟩ := x.min.le hr (rw_per h r)
  ⟨h1, h2, x.min.pos⟩
/-- the law's own test: the first so many letters of a candidate -/
theorem cand_check {h r : List Nat} {m p n : Nat} (hr : 0 < r.length) (hp : 0 < p) (hm : m ≤ h.length) (hp2 : p ≤ r.length) (hn : h.length + r.length + p ≤ n) :
    seg (rw (seg (rw h r) 0 m) (seg (rw h r) m p)) 0 n = seg (rw h r) 0 n ↔ Per (rw h r) m p := by
  constructor
  · intro e
    have pg := rw_per (seg (rw h r) 0 m) (seg (rw h r) m p)
    rw [seg_len, seg_len] at pg
    have ef := fine_wilf (rw_per h r) (pg.mono hm) hr hp fun i hi => by
      have := seg_inj e i (by omega)
      simpa using this.symm
    rw [ef]
    exact pg
  · intro pf
    rw [per_rw pf hp]
theorem ok_S {l : List Nat} (h : Wd l) : PyData.strOk (S l) = true := by
  unfold PyData.strOk S
  rw [← Array.all_toList]
  exact List.all_eq_true.mpr fun c hc => decide_eq_true (by rcases h c hc with e | e | e <;> omega)
theorem S_beq (a b : List Nat) : (S a == S b) = decide (a = b) := SX.S_beq_eq
/-- == of two tuples of two texts -/
theorem r_eqSS {K : PySem.W.Frag} {H : Hp} {Q : VK} {x y : Addr} {a b c d : List Nat} (h1 : SqT K H x [.str (S a), .str (S b)]) (h2 : SqT K H y [.str (S c), .str (S d)]) (oa : Wd a) (ob : Wd b) (oc : Wd c) (od : Wd d)
    (q : Q (.bl (decide (a = c ∧ b = d))) H) : rEqD K (.ref x) (.ref y) H Q := by
  refine ⟨_, _, .tup h1 (.cons (.str _) (.cons (.str _) .nil)), .tup h2 (.cons (.str _) (.cons (.str _) .nil)), ?_, ?_, ?_⟩
  · unfold SeqAt.shaped
    simp only [PyData.canLay0, PyData.canLayAll0, ok_S oa, ok_S ob, PyData.depth, PyData.depthAll]
    rfl
  · unfold SeqAt.shaped
    simp only [PyData.canLay0, PyData.canLayAll0, ok_S oc, ok_S od, PyData.depth, PyData.depthAll]
    rfl
  · have e : PyData.eqv (.tuple [.str (S a), .str (S b)]) (.tuple [.str (S c), .str (S d)]) = decide (a = c ∧ b = d) := by
      simp only [PyData.eqv, PyData.eqvAll, Bool.and_true, S_beq, Bool.decide_and]
    rw [e]
    exact q
theorem Least.wd {h r a b : List Nat} (hr : 0 < r.length) (wh : Wd h) (wr : Wd r) (x : Least h r a b) : Wd a ∧ Wd b := by
  have w : ∀ i, rw h r i = 110 ∨ rw h r i = 102 ∨ rw h r i = 115 := fun i => by
    by_cases hi : i < h.length
    · rw [rw_lt hi, List.getD_eq_getElem?_getD, List.getElem?_eq_getElem hi]
      exact wh _ (List.getElem_mem hi)
    · have hm : (i - h.length) % r.length < r.length := Nat.mod_lt _ hr
      rw [rw_ge (by omega), List.getD_eq_getElem?_getD, List.getElem?_eq_getElem hm]
      exact wr _ (List.getElem_mem hm)
  have ws : ∀ a n, Wd (seg (rw h r) a n) := fun a n c hc => by
    unfold seg at hc
    obtain ⟨j, _, e⟩ := List.mem_map.mp hc
    rw [← e]
    exact w _
  have e1 := rw_head a b
  have e2 := rw_ring a b
  rw [x.row] at e1 e2
  exact ⟨e1 ▸ ws 0 a.length, e2 ▸ ws a.length b.length⟩
theorem atI_neg (l : List Nat) (c : Nat) : atI (l ++ [c]) (-1) = some c := atI_last _ _
theorem cut_last (l : List Nat) (c : Nat) : cutS (S (l ++ [c])) none (some (-1)) = S l := by
  rw [cut_S, HT.sIx_none]
  have e : HT.sIx (l ++ [c]).length (l ++ [c]).length (some (-1)) = l.length := by
    show (if (-1 : Int) < 0 then ((-1 : Int) + ((l ++ [c]).length : Int)).toNat else min (-1 : Int).toNat (l ++ [c]).length) = l.length
    rw [if_pos (by decide), List.length_append]
    simp
    omega
  rw [e]
  simp
theorem snoc_of {l : List Nat} (h : 0 < l.length) : ∃ a c, l = a ++ [c] := ⟨l.dropLast, l.getLast (by intro z; subst z; simp at h), (List.dropLast_concat_getLast _).symm⟩
theorem r_ixS {H : Hp} {Q : VK} {l : List Nat} {i : Int} {c : Nat} (hl : l.length ≤ 1000000) (h : atI l i = some c) (q : Q (.str (S [c])) H) : rIxS (.str (S l)) (.int i) H Q := ⟨_, i, c, rfl, rfl, by rw [S_len]; exact le_line hl, by rw [S_codes]; exact h, q⟩
/-! ### the same row told otherwise -/
theorem rw_longer {h r : List Nat} (r0 : 0 < r.length) : rw (h ++ r) r = rw h r := by
  have pf := rw_per h r
  have := per_rw (pf.mono (show h.length ≤ h.length + r.length by omega)) r0
  have e1 : seg (rw h r) 0 (h.length + r.length) = h ++ r := by
    rw [← seg_app, rw_head, Nat.zero_add, rw_ring]
  have e2 : seg (rw h r) (h.length + r.length) r.length = r := by
    conv => rhs; rw [← rw_ring h r]
    exact seg_ext fun i _ => by
      have := pf (h.length + i) (by omega)
      rw [← this]
      congr 1
      omega
  rw [e1, e2] at this
  exact this
theorem seg_rep {f : Nat → Nat} {m p : Nat} (pf : Per f m p) : ∀ k, seg f m (k * p) = (List.replicate k (seg f m p)).flatten
  | 0 => by simp [seg]
  | k + 1 => by
    rw [List.replicate_succ', List.flatten_append, ← seg_rep pf k, List.flatten_cons, List.flatten_nil, List.append_nil, Nat.succ_mul, ← seg_app]
    congr 1
    exact seg_ext fun i _ => by
      have := pf.mul k (m + i) (by omega)
      rw [← this]
      congr 1
      rw [Nat.mul_comm p k]
      omega
theorem rw_often {h r : List Nat} {k : Nat} (r0 : 0 < r.length) (hk : 0 < k) : rw h (List.replicate k r).flatten = rw h r := by
  have pf := rw_per h r
  have := per_rw (pf.mul k) (Nat.mul_pos r0 hk)
  rw [rw_head, Nat.mul_comm, seg_rep pf, rw_ring] at this
  exact this
theorem rw_turn {h r : List Nat} {c : Nat} : rw (h ++ [c]) (r ++ [c]) = rw h (c :: r) := by
  have pf := rw_per h (c :: r)
  have e0 := rw_ring h (c :: r)
  rw [List.length_cons] at pf e0
  have fa : rw h (c :: r) h.length = c := by
    rw [rw_ge (Nat.le_refl _), Nat.sub_self, Nat.zero_mod]
    rfl
  have := per_rw (pf.mono (show h.length ≤ h.length + 1 by omega)) (show 0 < r.length + 1 by omega)
  have s1 : seg (rw h (c :: r)) h.length 1 = [c] := by simp [seg, fa]
  have e1 : seg (rw h (c :: r)) 0 (h.length + 1) = h ++ [c] := by
    rw [← seg_app, rw_head, Nat.zero_add, s1]
  have e2 : seg (rw h (c :: r)) (h.length + 1) (r.length + 1) = r ++ [c] := by
    rw [← seg_app]
    congr 1
    · have h1 : seg (rw h (c :: r)) h.length 1 ++ seg (rw h (c :: r)) (h.length + 1) r.length = seg (rw h (c :: r)) h.length (1 + r.length) := seg_app
      rw [Nat.add_comm 1 r.length, e0, s1] at h1
      simpa using h1
    · have := pf h.length (Nat.le_refl _)
      rw [fa] at this
      simp [seg]
      rw [show h.length + 1 + r.length = h.length + (r.length + 1) by omega]
      exact this
  rw [e1, e2] at this
  exact this
theorem cut_mid {l : List Nat} {a b : Nat} (h : a ≤ b) (h2 : b ≤ l.length) : cutS (S l) (some (a : Int)) (some (b : Int)) = S ((l.drop a).take (b - a)) := by
  rw [cut_S, sIx_le h2, sIx_le (show a ≤ l.length by omega)]
/-- rows agree if so many letters do -/
theorem rows_check {h r h' r' : List Nat} {n : Nat} (r0 : 0 < r.length) (r0' : 0 < r'.length) (hn : h.length + r.length + r'.length ≤ n) (hn2 : h'.length + r.length + r'.length ≤ n) :
    seg (rw h r) 0 n = seg (rw h' r') 0 n ↔ rw h r = rw h' r' := by
  constructor
  · intro e
    refine fine_wilf ((rw_per h r).mono (Nat.le_max_left h.length h'.length)) ((rw_per h' r').mono (Nat.le_max_right _ _)) r0 r0' fun i hi => ?_
    have := seg_inj e i (by omega)
    simpa using this
  · intro e
    rw [e]
theorem cut_dl (l : List Nat) : cutS (S l) none (some (-1)) = S l.dropLast := by
  by_cases h : 0 < l.length
  · obtain ⟨a, c, rfl⟩ := snoc_of h
    rw [cut_last]
    simp
  · have : l = [] := List.eq_nil_of_length_eq_zero (by omega)
    subst this
    rw [cut_S]
    rfl
theorem r_revS {te : TE} {σ : L2.St} {H : Hp} {Q : VK} (h : te σ H fun x H1 => rRev x H1 Q) : tRevS te σ H Q := h
theorem r_revT {l : List Nat} {H : Hp} {Q : VK} (hl : l.length ≤ 1000000) (q : Q (.str (S l.reverse)) H) : rRev (.str (S l)) H Q := ⟨_, rfl, by rw [S_len]; exact le_line hl, by rw [S_codes]; exact q⟩
theorem r_catL {H : Hp} {Q : VK} {l b : Addr} {xs zs : List V} (h1 : H l = some (.lst xs)) (h2 : H b = some (.lst zs)) (hz : xs.length + zs.length ≤ 1000000) (q : ∀ p, H p = none → Q (.ref p) (upd H p (.lst (xs ++ zs)))) : rCat (.ref l) (.ref b) H Q := ⟨l, b, xs, zs, rfl, rfl, h1, h2, le_line hz, q⟩
theorem r_notB {a b : Bool} {H : Hp} {Q : VK} (q : Q (.bl (!decide (a = b))) H) : rNotB (.bl a) (.bl b) H Q := ⟨a, b, rfl, rfl, q⟩
theorem r_isB {a b : Bool} {H : Hp} {Q : VK} (q : Q (.bl (decide (a = b))) H) : rIsB (.bl a) (.bl b) H Q := ⟨a, b, rfl, rfl, q⟩
theorem Wd.dl {a : List Nat} (h : Wd a) : Wd a.dropLast := fun c hc => h c (List.dropLast_subset _ hc)
theorem Wd.rev {a : List Nat} (h : Wd a) : Wd a.reverse := fun c hc => h c (List.mem_reverse.mp hc)
section
variable {K : PySem.W.Frag}
/-- [f(x) for x in t], f of a bool -/
theorem lcT_bl {xs : List V} {t : Addr} {g : TG} {te : TE} {vs : List Nat} {σ : L2.St} {H1 : Hp} {D : Addr} {Qd : Hp → Prop} (bs : List Bool) (hb : bs.length = xs.length) (hD : H1 D = none) (hT : SqT K H1 t xs) (hl : xs.length ≤ 1000000)
    (hs : ∀ (i : Nat) (x : V) (b : Bool) (H : Hp), xs[i]? = some x → bs[i]? = some b → Same H1 H → ∀ R : V → Hp → Prop, (∀ H', Same H H' → R (.bl b) H') → g x (wipe σ vs) H fun σ2 H2 => wipe σ2 vs = wipe σ vs ∧ te σ2 H2 R)
    (hd : ∀ H, Same H1 H → H D = some (.lst (bs.map V.bl)) → Qd H) :
    ∃ W : Nat → Nat → Hp → Prop, (∃ m, W 0 m (upd H1 D (.lst []))) ∧ ∀ i m H, W i m H →
      ((Itt K t).stop i H ∧ Qd H) ∨ ((Itt K t).go i H ∧ ∃ Nx : Hp → Prop, (∀ H', Nx H' → ∃ m', m' < m ∧ W (i + 1) m' H') ∧ ∀ x H', (Itt K t).yld i H x H' → g x (wipe σ vs) H' fun σ2 H2 => wipe σ2 vs = wipe σ vs ∧ tYes σ2 H2 fun b H3 =>
        if b = true then te σ2 H3 fun y H4 => ∃ acc, H4 D = some (.lst acc) ∧ acc.length < sizeLine ∧ Nx (upd H4 D (.lst (acc ++ [y]))) else Nx H3) := by
  refine lc_acc (n := xs.length) (fun i H' => Same H1 H') (fun i v => ∃ b, bs[i]? = some b ∧ v = .bl b) hl (same_new hD) (fun i H' acc acc' e _ => Same.mut e hD) (fun i H' hi e => ?_) (fun H' e => ?_) ?_ ?_
  · exact ⟨xs, xs[i], Same.sqt e hT, List.getElem?_eq_getElem hi⟩
  · exact ⟨xs, Same.sqt e hT, Nat.le_refl _⟩
  · rintro i x H H' acc hi e hacc ⟨rfl, f⟩ R hR
    have eb : bs[i]? = some bs[i] := List.getElem?_eq_getElem (by omega)
    exact hs i x _ _ (f _ (Same.sqt e hT)) eb e R fun H4 e4 => hR _ _ (e4 _ _ hacc) ⟨_, eb, rfl⟩ (e.trans e4)
  · intro H acc hl2 hv hacc e
    have : acc = bs.map V.bl := by
      apply List.ext_getElem?
      intro i
      by_cases hi : i < xs.length
      · obtain ⟨b, eb, ev⟩ := hv i acc[i] (List.getElem?_eq_getElem (by omega))
        rw [List.getElem?_eq_getElem (by omega), ev, List.getElem?_map, eb]
        rfl
      · rw [List.getElem?_eq_none (by omega), List.getElem?_eq_none (by simp; omega)]
    rw [this] at hacc
    exact hd _ e hacc
/-- [.. for x in t]: each one true -/
theorem lcT_true {xs : List V} {t : Addr} {g : TG} {te : TE} {vs : List Nat} {σ : L2.St} {H1 : Hp} {D : Addr} {Qd : Hp → Prop} (hD : H1 D = none) (hT : SqT K H1 t xs) (hl : xs.length ≤ 1000000)
    (hs : ∀ (i : Nat) (x : V) (H : Hp), xs[i]? = some x → Same H1 H → ∀ R : V → Hp → Prop, (∀ H', Same H H' → R (.bl true) H') → g x (wipe σ vs) H fun σ2 H2 => wipe σ2 vs = wipe σ vs ∧ te σ2 H2 R)
    (hd : ∀ H, Same H1 H → H D = some (.lst (List.replicate xs.length (.bl true))) → Qd H) :
    ∃ W : Nat → Nat → Hp → Prop, (∃ m, W 0 m (upd H1 D (.lst []))) ∧ ∀ i m H, W i m H →
      ((Itt K t).stop i H ∧ Qd H) ∨ ((Itt K t).go i H ∧ ∃ Nx : Hp → Prop, (∀ H', Nx H' → ∃ m', m' < m ∧ W (i + 1) m' H') ∧ ∀ x H', (Itt K t).yld i H x H' → g x (wipe σ vs) H' fun σ2 H2 => wipe σ2 vs = wipe σ vs ∧ tYes σ2 H2 fun b H3 =>
        if b = true then te σ2 H3 fun y H4 => ∃ acc, H4 D = some (.lst acc) ∧ acc.length < sizeLine ∧ Nx (upd H4 D (.lst (acc ++ [y]))) else Nx H3) := by
  refine lc_acc (n := xs.length) (fun i H' => Same H1 H') (fun _ v => v = .bl true) hl (same_new hD) (fun i H' acc acc' e _ => Same.mut e hD) (fun i H' hi e => ?_) (fun H' e => ?_) ?_ ?_
  · exact ⟨xs, xs[i], Same.sqt e hT, List.getElem?_eq_getElem hi⟩
  · exact ⟨xs, Same.sqt e hT, Nat.le_refl _⟩
  · rintro i x H H' acc hi e hacc ⟨rfl, f⟩ R hR
    exact hs i x _ (f _ (Same.sqt e hT)) e R fun H4 e4 => hR _ _ (e4 _ _ hacc) rfl (e.trans e4)
  · intro H acc hl2 hv hacc e
    rw [all_true hl2 hv] at hacc
    exact hd _ e hacc
end
end Tf

set_option Elab.async false
set_option linter.all false
set_option maxRecDepth 100000
set_option maxHeartbeats 2000000
/-! exceptions that are caught and held, lambdas that are handed on -/
namespace Tf
open PySem PySem.Spec PyProof.Rows L2 LamX

/-! ### a caught exception, held as a value -/
/-- at a: an exception of the class cls, its dict at d -/
def ExcV (cls : Value) (d : Option Addr) (a : Addr) : HO := .ext fun h => ∃ (oe : Obj) (vs : Array Value), h.get? a = some oe ∧ Zc cls d oe ∧ oe.data = .fields vs
theorem excV_ok {P : Program} {w : World} {H : Hp} {h : Heap} {a : Addr} {cls : Value} {d : Option Addr} {oe : Obj} {vs : Array Value} (e : h.get? a = some oe) (z : Zc cls d oe) (f : oe.data = .fields vs) : ObjOk P w H h a (ExcV cls d a) :=
  ⟨⟨oe, vs, e, z, f⟩, ⟨oe, e⟩, fun _ _ ⟨o, v, q, r⟩ k => ⟨o, v, k o q, r⟩⟩
theorem excV_at {P : Program} {w : World} {H : Hp} {h : Heap} {a : Addr} {cls : Value} {d : Option Addr} (hok : HOk P w H h) (e : H a = some (ExcV cls d a)) : ∃ (oe : Obj) (vs : Array Value), h.get? a = some oe ∧ Zc cls d oe ∧ oe.data = .fields vs := by
  have x : ObjOk P w H h a (.ext fun h => ∃ (oe : Obj) (vs : Array Value), h.get? a = some oe ∧ Zc cls d oe ∧ oe.data = .fields vs) := hok a _ e
  exact x.1
section
variable {X : Cx} {pins : List (Addr × Obj)} {σ : L2.St} {H : Hp} {s : Shared}
/-- an exception of ours, new since the entry, is tracked from now on -/
theorem track {a : Addr} {oe : Obj} {vs : Array Value} {cls : Value} {d : Option Addr} (I : Inv X pins σ H s) (ha : s.heap.get? a = some oe) (hz : Zc cls d oe) (hd : oe.data = .fields vs) (na : H a = none) (n0 : X.s_0.heap.get? a = none)
    (nL : a ≠ X.env.locals) (np : ∀ p ∈ X.pn ++ pins, p.1 ≠ a) : Inv X pins σ (upd H a (ExcV cls d a)) s := by
  have n0' : ∀ b o, X.s_0.heap.get? b = some o → b ≠ a := fun b o e z => by
    rw [z, n0] at e
    cases e
  refine ⟨I.ok, I.os, I.bare, ⟨I.base.keep, I.base.slot, fun b o e n hx => by rw [upd_ne (n0' b o e)]; exact I.base.free b o e n hx, I.base.there, fun b xs e => ?_, fun b o u e => ?_, fun b ps e => ?_⟩, I.loc, I.cell, by rw [upd_ne (Ne.symm nL)]; exact I.free, fun x c e => ?_, fun p hp => ?_, fun b u e => ?_, I.len⟩
  · have q := I.base.tups b xs e
    rw [upd_ne (ne_of_none q na)]
    exact q
  · have q := I.base.frzs b o u e
    rw [upd_ne (ne_of_none q na)]
    exact q
  · obtain ⟨m, q⟩ := I.base.tbls b ps e
    exact ⟨m, by rw [upd_ne (ne_of_none q na)]; exact q⟩
  · obtain ⟨v, o, q1, q2⟩ := I.cell x c e
    rw [upd_ne (fun z => by
      rw [z, ha] at q1
      cases q1
      rw [hd] at q2
      cases q2)]
    exact I.freeC x c e
  · obtain ⟨e, n, r⟩ := I.pin p hp
    exact ⟨e, by rw [upd_ne (np p hp)]; exact n, r⟩
  · by_cases hb : b = a
    · subst hb
      rw [upd_same] at e
      cases e
      exact excV_ok ha hz hd
    · rw [upd_ne hb] at e
      exact (I.hok b u e).stay (fun c v _ q => q) (fun c q => by rw [upd_ne (ne_of_none q na)]; exact q) fun c xs q => by rw [upd_ne (ne_of_none q na)]; exact q
end
/-- what 'except x as n' wishes: behind the suite the exception is known as a value -/
def endV (i : Nat) (a : Addr) (cls : Value) (d : Option Addr) (D : Ends) : Ends := { nx := fun σ' H' => D.nx (σ'.set i none) (upd H' a (ExcV cls d a)), rt := fun v H' => D.rt v (upd H' a (ExcV cls d a)), bk := fun σ' H' => D.bk (σ'.set i none) (upd H' a (ExcV cls d a)), ct := fun σ' H' => D.ct (σ'.set i none) (upd H' a (ExcV cls d a)) }
def wAsV (K : PySem.W.Frag) (c : Value) (i : Nat) (ts : Addr → Value → Option Addr → TS) (Wout : WX) (D : Ends) : WX := fun cls d σ H =>
  ∃ b, PySem.W.exmOne K cls c = some b ∧ (b = true → ∀ a, H a = none → ts a cls d (endV i a cls d D) (σ.set i (some (.ref a))) H) ∧ (b = false → Wout cls d σ H)
section
variable {X : Cx} {pins : List (Addr × Obj)} {σ σ' : L2.St} {H H' : Hp} {sI s : Shared} {B h : Heap} {a : Addr} {cls : Value} {d : Option Addr}
/-- an exception that landed is none of the frames, none of what was there at the entry, none of the pins -/
theorem landed_new (hs : X.stack = X.env :: X.outer) (hf : X.env.frame = some X.env.locals) (hex : X.ex = []) (J : Inv X pins σ H sI) (nb : ∀ b o, sI.heap.get? b = some o → b ∉ frs X.stack → B.get? b = some o)
    (fl : HandSPX.FlyingZ B (X.env :: X.outer) a (Zc cls d) h) : a ≠ X.env.locals ∧ a ∉ X.fs ∧ X.s_0.heap.get? a = none ∧ ∀ p ∈ X.pn ++ pins, p.1 ≠ a := by
  obtain ⟨oe, vs, he, _, hd⟩ := fl.there
  have out : a ∉ frs X.stack := by
    rw [hs]
    intro hm
    obtain ⟨_, o, e, hnf⟩ := fl.2.2.1.mem hm
    exact hnf vs (by rw [← hd]; exact congrArg Obj.data (Option.some.inj (e.symm.trans he)))
  have inF : ∀ e ∈ X.env :: X.outer, e.frame ≠ some a := fun e he z => out (by rw [hs]; exact List.mem_filterMap.mpr ⟨e, he, z⟩)
  have gone : ∀ o, sI.heap.get? a ≠ some o := fun o e => by
    have z := (nb a o e out).symm.trans fl.2.1
    cases z
  refine ⟨fun z => inF X.env List.mem_cons_self (by rw [hf, z]), fun hm => ?_, ?_, fun p hp z => gone p.2 (z ▸ (J.pin p hp).1)⟩
  · obtain ⟨e, he, z⟩ := List.mem_filterMap.mp hm
    exact inF e (List.mem_cons_of_mem _ he) z
  · cases e : X.s_0.heap.get? a with
    | none => rfl
    | some o =>
      obtain ⟨o', z⟩ := J.base.there a o e (by simp [hex])
      exact absurd z (gone o')
/-- fewer pins -/
theorem Inv.drop {p : Addr × Obj} (I : Inv X (p :: pins) σ H s) : Inv X pins σ H s := ⟨I.ok, I.os, I.bare, I.base, I.loc, I.cell, I.free, I.freeC, fun r hr => I.pin r ((List.mem_append.mp hr).elim (List.mem_append_left _) fun z => List.mem_append_right _ (List.mem_cons_of_mem _ z)), I.hok, I.len⟩
/-- behind the suite the pin is still told -/
theorem Inv.behind {p : Addr × Obj} (ok : X.Ok) (I : Inv (X.suite a (p :: (X.pn ++ pins))) [] σ H s) : Inv X (p :: pins) σ H s := ⟨ok, I.os, I.bare, I.base, I.loc, I.cell, I.free, I.freeC, fun r hr => I.pin r (List.mem_append_left _ (by
  rcases List.mem_append.mp hr with z | z
  · exact List.mem_cons_of_mem _ (List.mem_append_left _ z)
  · rcases List.mem_cons.mp z with z | z
    · rw [z]
      exact List.mem_cons_self
    · exact List.mem_cons_of_mem _ (List.mem_append_right _ z))), I.hok, I.len⟩
variable {x n : Str} {c : Value} {i : Nat} {body suite : List Stmt} {b₀ : Stmt} {np pos pos' : Pos} {tb : WX → TS} {ts : Addr → Value → Option Addr → TS} {Wout : WX}
/-- the name of the clause goes, the exception is known as a value -/
theorem behind_as {oe : Obj} {vs : Array Value} {A : Around} {E : Value → Shared → Prop} {Q : Unit → Shared → Prop} (ok : X.Ok) (hN : X.N.Nodup) (hi : X.N[i]? = some n) (hln : X.env.kindOf n = some .local) (hz : Zc cls d oe) (hd : oe.data = .fields vs) (n0 : X.s_0.heap.get? a = none)
    (nL : a ≠ X.env.locals) (np : ∀ p ∈ X.pn ++ pins, p.1 ≠ a) (I : Inv (X.suite a ((a, oe) :: (X.pn ++ pins))) [] σ H s) (q : ∀ s', Inv X pins (σ.set i none) (upd H a (ExcV cls d a)) s' → Q () s') :
    wpAny (model X.prog X.w) A (do bindName X.env n .none; unbindBehindTheSuite X.env n pos') Q E s := by
  refine gone_ok (Inv.behind ok I) hN hi hln fun s' J => q s' ?_
  obtain ⟨e, na, _⟩ := J.pin (a, oe) (List.mem_append_right _ List.mem_cons_self)
  exact track (Inv.drop J) e hz hd na n0 nL np
/-- try: body / except x as n: suite, the exception held behind it -/
theorem ps_try_asV (hs : X.stack = X.env :: X.outer) (hf : X.env.frame = some X.env.locals) (hex : X.ex = []) (hN : X.N.Nodup) (hi : X.N[i]? = some n) (hln : X.env.kindOf n = some .local) (hg : Gl X x) (hm : X.mg x = some c) (hdb : (x == ("__debug__" : Str)) = false) (tk : Takes X Wout)
    (hb : ∀ (W : WX) (pn : List (Addr × Obj)) (xe : Value → Shared → Prop), Takes (X.tr pn xe) W → PSs (X.tr pn xe) body (tb W))
    (hsu : ∀ (a : Addr) (oe : Obj) (cls : Value) (d : Option Addr) (pn : List (Addr × Obj)), PSs (X.suite a ((a, oe) :: pn)) (b₀ :: suite) (ts a cls d)) :
    PS X (.Try body [.ExceptHandler (some (.Name x np)) (some n) (b₀ :: suite) pos'] [] [] pos) (fun D σ H => tb (wAsV X.K c i ts Wout D) D σ H) := by
  constructor
  intro pins s σ H D I h
  have ok := I.ok
  refine wpAny_Try_except (wpAny_mono ((hb (wAsV X.K c i ts Wout D) (X.pn ++ pins) _ fun u s' air => ?fall).run [] s σ H D (I.toTry _) h) (fun f s1 z => ?over) (fun e s1 z => z))
  case over =>
    cases f with
    | next =>
      obtain ⟨σ', H', J, z⟩ := z
      exact wpAny_execs_nil ⟨σ', H', J.ofTry ok, z⟩
    | ret u =>
      obtain ⟨v, σ', H', J, z⟩ := z
      exact ⟨v, σ', H', J.ofTry ok, z⟩
    | brk | cont =>
      obtain ⟨σ', H', J, z⟩ := z
      exact ⟨σ', H', J.ofTry ok, z⟩
  case fall =>
    obtain ⟨a, B, sI, _, σ', H', cls, d, rfl, J, nb, up, sky, na, os, ag, b, eb, yes, no⟩ := air
    replace J : Inv X pins σ' H' sI := J.ofTry ok
    refine Sky.land (env := X.env) (outer := X.outer) Zc.steady (by rw [ok.frames, hs]) hf (by rw [← hs]; exact sky) fun h3 fl up' => ?_
    obtain ⟨nL, nF, n0, np⟩ := landed_new hs hf hex J nb fl
    obtain ⟨oe, vs, he, hz, hd⟩ := fl.there
    have J3 : Inv X pins σ' H' { s' with heap := h3 } := J.landed nb fl.1 (up.trans up') os ag
    refine wpAny_handleBy_cons (codeAny_handlers_test ?_) (fun z => nomatch z)
    have type : PySem.W.Looks (model X.prog X.w) h3 (typeOf (.ref a)) cls := fun _ _ _ _ k z => wpAny_typeOf_ref (k _ _ he) (by rw [hz.1]; exact z)
    refine ld_glob (X := X.suite a ((a, oe) :: (X.pn ++ pins))) (J3.suite he hd na nL nF) hg hm ((PySem.W.exm_one (M := model X.prog X.w) J3.kIn type eb).here ?_) hdb
    cases b with
    | false =>
      refine wpAny_handleBy_nil ?_
      obtain ⟨_, _, _, o2, v2, T, _, _, g1, _, g2, g3, _⟩ := id fl
      unfold PySem.passOn
      refine wpAny_bind (wpAny_field g1 g2 g3 ?_)
      have on : wpAny (model X.prog X.w) X.A (setFlight (.ref a) X.env.frame) (fun _ s4 => wpAny (model X.prog X.w) X.A (throw (.ref a) : Sem Flow) (SP X pins D) X.xe s4) X.xe { s' with heap := h3 } := by
        rw [hf]
        exact HandSPX.setFlight_upZ fl fun h4 held up4 => wpAny_throw (tk _ _ ⟨a, B, sI, pins, σ', H', cls, d, rfl, J, nb, (up.trans up').trans up4, .inr (.inr (by rw [hs]; exact held)), na, os, ag, no rfl⟩)
      rw [if_neg (by simp)]
      first | exact wpAny_bind (wpAny_pure (wpAny_bind on)) | exact wpAny_bind on
    | true =>
      refine codeAny_handlers_suite_as (HandSPX.lands_againZ fl fun h4 fl4 up4 => ?_)
      obtain ⟨oe, vs, he, hz, hd⟩ := fl4.there
      have J4 : Inv X pins σ' H' { s' with heap := h4 } := J.landed nb fl4.1 ((up.trans up').trans up4) os ag
      refine store_ok (X := X.suite a ((a, oe) :: (X.pn ++ pins))) (v := .ref a) (J4.suite he hd na nL nF) hN hi (.inl hln) rfl (fun s5 S5 => ?_) (.inr hln)
      refine wpAny_mono ((hsu a oe cls d (X.pn ++ pins)).run [] s5 _ H' _ S5 (yes rfl a na)) (fun f s6 z => ?_) (fun _ _ z => z.elim)
      cases f with
      | ret u =>
        obtain ⟨v, σ6, H6, S6, r, z⟩ := z
        exact behind_as ok hN hi hln hz hd n0 nL np S6 fun s7 J7 => ⟨v, _, _, J7, r, z⟩
      | next | brk | cont =>
        obtain ⟨σ6, H6, S6, z⟩ := z
        exact behind_as ok hN hi hln hz hd n0 nL np S6 fun s7 J7 => ⟨_, _, J7, z⟩
end

/-! ### what the written part says of an exception class of the program -/
structure ECls (K : PySem.W.Frag) (C fI : Addr) : Prop where
  o : OexC K C
  f : XfC K C
  i : ExcC K C
  no : PySem.W.findIn K (.ref C) "value" = some none
  ini : PySem.W.findIn K (.ref C) "__init__" = some (some (.ref fI))
  tI : PySem.W.typeIn K (.ref fI) = some (.type "function")
def oexB (K : PySem.W.Frag) (C : Addr) : Bool := match K.lookup C with
  | some ⟨.type "type", _, .cls cd, sl⟩ => (match cd.mro, sl.toList with
    | .ref C' :: bm, [_, _, _, _, some (.builtin n), _] => C' == C && (n == "ValueError.__new__" && (!cd.hasDel && (cd.hasDict && PySem.HandSPX.refsVE bm)))
    | _, _ => false)
  | _ => false
theorem oexB_ok {K : PySem.W.Frag} {C : Addr} (q : oexB K C = true) : ∃ nm q N bs bm sn sub ab col dd k0 k1 k2 k3 k5, K.lookup C = some (excClassObj nm q C N bs bm true sn sub ab col dd k0 k1 k2 k3 k5 "ValueError.__new__") ∧ PySem.HandSPX.refsVE bm = true := by
  unfold oexB at q
  split at q
  · rename_i dd cd sl ho
    split at q
    · rename_i C' bm k0 k1 k2 k3 n k5 hm hs
      simp only [Bool.and_eq_true, beq_iff_eq, Bool.not_eq_true'] at q
      obtain ⟨rfl, rfl, hdel, hdic, ht⟩ := q
      obtain ⟨nm, bs, mro, ns, qn, hd, sn, sub, ab, col, del⟩ := cd
      dsimp only at hm hdel hdic
      subst hm hdel hdic
      have hsl : sl = #[k0, k1, k2, k3, some (.builtin "ValueError.__new__"), k5] := by
        obtain ⟨l⟩ := sl
        simp only at hs
        rw [hs]
      subst hsl
      exact ⟨nm, qn, ns, bs, bm, sn, sub, ab, col, dd, k0, k1, k2, k3, k5, ho, ht⟩
    · cases q
  · cases q
def eclsL (K : PySem.W.Frag) (C fI : Addr) : List Bool := [oexB K C, He.eqO (PySem.W.findIn K (.ref C) "__setattr__") (some (some (.builtin "object.__setattr__"))), decide (PySem.W.subIn K (.ref C) (.type "BaseException") = some true), decide (PySem.W.typeIn K (.ref C) = some (.type "type")), PySem.W.keepIn K (.ref C), xfB K C,
  He.eqO (PySem.W.findIn K (.ref C) "__class__") (some (some (.builtin "object.__class__"))), He.eqO (PySem.W.specialIn K (.builtin "object.__class__") "__get__") (some (some (.builtin "getset_descriptor.__get__"))), decide (PySem.W.takesIn K (.builtin "object.__class__") = some true),
  decide (PySem.W.mroIn K C (.type "object") = some true), He.eqO (PySem.W.findIn K (.ref C) "value") (some none), He.eqO (PySem.W.findIn K (.ref C) "__init__") (some (some (.ref fI))), decide (PySem.W.typeIn K (.ref fI) = some (.type "function"))]
def eclsB (K : PySem.W.Frag) (C fI : Addr) : Bool := (eclsL K C fI).all id
theorem ecls_ok {K : PySem.W.Frag} {C fI : Addr} (h : eclsB K C fI = true) : ECls K C fI := by
  unfold eclsB eclsL at h
  simp only [List.all_cons, List.all_nil, Bool.and_true, Bool.and_eq_true, id] at h
  obtain ⟨h1, h2, h3, h4, h5, h6, h7, h8, h9, h10, h11, h12, h13⟩ := h
  have x := xfB_ok h6
  exact ⟨⟨oexB_ok h1, He.eqO_ok h2, of_decide_eq_true h3, of_decide_eq_true h4, h5⟩, x, ⟨x.ga, x.gg, x.exC, x.hdC, He.eqO_ok h7, He.eqO_ok h8, of_decide_eq_true h9, of_decide_eq_true h10⟩, He.eqO_ok h11, He.eqO_ok h12, of_decide_eq_true h13⟩

/-! ### e.value of a held exception -/
def tXv (K : PySem.W.Frag) (n : Str) (te : TE) : TE := fun σ H Q => te σ H fun x H1 => ∃ (a C dd : Addr) (fs : List (Str × V)) (v : V), x = .ref a ∧ H1 a = some (ExcV (.ref C) (some dd) a) ∧ H1 dd = some (.xd fs) ∧ XfC K C ∧ PySem.W.findIn K (.ref C) n = some none ∧ fs.lookup n = some v ∧ Q v H1
theorem excV_inst {X : Cx} {pins : List (Addr × Obj)} {σ : L2.St} {H : Hp} {s : Shared} {a C dd : Addr} {fs : List (Str × V)} (I : Inv X pins σ H s) (ea : H a = some (ExcV (.ref C) (some dd) a)) (ed : H dd = some (.xd fs)) :
    ∃ (oe od : Obj) (mA : Str → Option Value), PySem.W.InstAt s.heap a oe C (some od) ∧ (∀ f, RelO (fs.lookup f) (mA f)) ∧ ∀ f, PySem.W.lookIn f od = some (mA f) := by
  obtain ⟨oe, vs, he, hz, hd⟩ := excV_at I.hok ea
  have hx : ObjOk X.prog X.w H s.heap dd (.xd fs) := I.hok dd _ ed
  obtain ⟨mA, hns, hr⟩ := hx
  obtain ⟨od, ho, hl⟩ := lookIn_ns hns
  exact ⟨oe, od, mA, ⟨he, hz.1, by unfold PySem.W.notCls; rw [hd] <;> rfl, by rw [hz.2]; exact ho⟩, hr, hl⟩
theorem pe_xv {X : Cx} {e : Expr} {te : TE} {pos : Pos} {n : Str} (he : PE X e te) (hb : attributeBase e n X.env (eval e X.env) = eval e X.env := by rfl) : PE X (.Attribute e n pos) (tXv X.K n te) := by
  refine ⟨fun pins s σ H Q I h => ?_⟩
  refine attr_of hb (thn (he.run pins s σ H _ I h) fun u s1 hh => ?_)
  obtain ⟨x, H1, I1, rx, a, C, dd, fs, v, ex, ea, ed, T, hno, l, q⟩ := hh
  subst ex
  obtain rfl : u = Value.ref a := rx
  obtain ⟨oe, od, mA, J, hr, hl⟩ := excV_inst I1 ea ed
  obtain ⟨u, hu, ru⟩ := RelO.some_of (v := v) (o := mA n) (by rw [← l]; exact hr n)
  exact HandSPX.exc_get I1.kIn J T.ga T.gg T.exC (PySem.W.findObj_own T.hdC hno rfl (by rw [hl, hu])) (handed_of ru) ⟨v, H1, I1.tok _, ru, q⟩

/-! ### isinstance(e, C), e None or a held exception -/
def rIsX (K : PySem.W.Frag) : List V → Hp → VK → Prop := fun xs H Q => rIsi K xs H Q ∨ ∃ (a C dd D : Addr) (fs : List (Str × V)) (b : Bool), xs = [.ref a, .ref D] ∧ H a = some (ExcV (.ref C) (some dd) a) ∧ H dd = some (.xd fs) ∧ ExcC K C ∧ PySem.W.kitOne K (.ref C) (.ref D) = some b ∧ Q (.bl b) H
theorem call_isX {X : Cx} : CallR X (.builtin "isinstance") (rIsX X.K) := by
  intro pins s σ H xs us Q I r h
  rcases h with h | ⟨a, C, dd, D, fs, b, rfl, ea, ed, T, e, q⟩
  · exact call_isi pins s σ H xs us Q I r h
  · obtain ⟨u1, u2, rfl, r1, r2⟩ := vals2 r
    cases (show u1 = Value.ref a from r1)
    cases (show u2 = Value.ref D from r2)
    obtain ⟨oe, od, mA, J, _, _⟩ := excV_inst I ea ed
    have hcl : (PySem.W.clsIn X.K C).isSome = true := by
      obtain ⟨cd, hc, _⟩ := PySem.W.any_some T.hd
      rw [hc] <;> rfl
    exact PySem.W.kia_one (PySem.W.kitx_exc hcl T.hg T.hk T.hs T.ha T.hn T.ht T.hm) I.kIn J e (fun z => nomatch z) fun tk => ⟨.bl b, H, I.kept (t' := tk) fun _ _ z => z, rfl, q⟩
section
variable {K : PySem.W.Frag} {H : Hp} {Q : VK}
theorem r_isXn {D : Addr} (hk : PySem.W.kitOne K (.type "NoneType") (.ref D) = some false) (q : Q (.bl false) H) : rIsX K [.non, .ref D] H Q := .inl ⟨.non, .ref D, .type "NoneType", .ref D, false, rfl, .own D, .base .non, hk, q⟩
theorem r_isXe {a C dd D : Addr} {fs : List (Str × V)} {b : Bool} (ea : H a = some (ExcV (.ref C) (some dd) a)) (ed : H dd = some (.xd fs)) (T : ExcC K C) (hk : PySem.W.kitOne K (.ref C) (.ref D) = some b) (q : Q (.bl b) H) : rIsX K [.ref a, .ref D] H Q := .inr ⟨a, C, dd, D, fs, b, rfl, ea, ed, T, hk, q⟩
end

/-! ### raise C(e), the value kept -/
def spInit (K : PySem.W.Frag) : Sp := fun vs H Q _ => ∃ (a C : Addr) (v : V), vs = [.ref a, v] ∧ H a = some (exo a C none) ∧ OexC K C ∧ PySem.W.findIn K (.ref C) "value" = some none ∧ ∀ dx, H dx = none → dx ≠ a → Q .non (upd (upd H dx (exd dx [("value", v)])) a (exo a C (some dx)))
def ErrI (P : Program) (w : World) (K : PySem.W.Frag) (mg : Str → Option Value) (base : Heap) (fI : Addr) : Prop := ∃ fd, FnOk P w K mg base CX0 1 fI fd ["self", "value"] (spInit K) ∧ Binds K fd ["self", "value"] []
def errK (K : PySem.W.Frag) (C : Addr) (W : WX) (σ : L2.St) : List V → Hp → Prop := fun vs H1 => vs.length ≤ 1000 ∧ ∀ a, H1 a = none → spInit K (.ref a :: (vs ++ [])) (upd H1 a (exo a C none))
  (fun v H2 => v = .non ∧ ∃ (d : Addr) (fs : List (Str × V)), H2 a = some (exo a C (some d)) ∧ H2 d = some (exd d fs) ∧ H1 d = none ∧ W (.ref C) (some d) σ (upd (del H2 a) d (.xd fs))) (fun _ _ _ => False)
def tRz (K : PySem.W.Frag) (C : Addr) (W : WX) (ta : TA) : TS := fun _ σ H => ta σ H (errK K C W σ)
theorem ps_err {X : Cx} {x : Str} {C fI : Addr} {W : WX} {e : Expr} {te : TE} {j : Nat} {p pos pos2 : Pos} (T : ECls X.K C fI) (F : ErrI X.prog X.w X.K X.mg X.base fI) (hm : X.mg x = some (.ref C)) (hr : Room j X.A) (hc : X.calm = true) (tk : Takes X W) (hg : Gl X x) (he : PE X e te) (hj : 2 ≤ j := by decide)
    (hdb : (x == ("__debug__" : Str)) = false := by decide) (hs : starEach [e] X.env = (false, eval e X.env) :: starEach [] X.env := by rfl) : PS X (.Raise (some (.Call (.Name x p) [e] [] pos)) none pos2) (tRz X.K C W (tCons te tNil)) := by
  obtain ⟨fd, F1, b⟩ := F
  exact ps_raise hc tk (pmk_oex T.o T.ini T.tI F1 (hr.mono hj) b .nil pass0 hg hm (pa_cons he pa_nil hs) hdb hs (by rfl))
section
variable {K : PySem.W.Frag} {H : Hp} {σ : L2.St} {D : Ends} {W : WX} {C fI : Addr} {ta : TA}
theorem r_rz (h : ta σ H (errK K C W σ)) : tRz K C W ta D σ H := h
theorem err_of {v : V} (T : ECls K C fI) (h : ∀ d, H d = none → W (.ref C) (some d) σ (upd H d (.xd [("value", v)]))) : errK K C W σ [v] H := by
  refine ⟨by show 1 ≤ 1000; decide, fun a ha => ⟨a, C, v, rfl, upd_same, T.o, T.no, fun dx hd hne => ⟨rfl, dx, [("value", v)], upd_same, by rw [upd_ne hne, upd_same], ?_, ?_⟩⟩⟩
  · rw [← hd, upd_ne hne]
  · have hd' : H dx = none := by rw [← hd, upd_ne hne]
    have e : upd (del (upd (upd (upd H a (exo a C none)) dx (exd dx [("value", v)])) a (exo a C (some dx))) a) dx (.xd [("value", v)]) = upd H dx (.xd [("value", v)]) := by
      funext b
      by_cases h1 : b = dx
      · rw [h1, upd_same, upd_same]
      · rw [upd_ne h1, upd_ne h1]
        by_cases h2 : b = a
        · rw [h2, del_same, ha]
        · rw [del_ne h2, upd_ne h2, upd_ne h1, upd_ne h2]
    rw [e]
    exact h dx hd'
end

/-! ### a thing to be called without arguments, handed on -/
/-- f, known in the state s of the frames st: called later it reads as tl -/
structure Thk (P : Program) (w : World) (K : PySem.W.Frag) (mg : Str → Option Value) (base : Heap) (st : List Env) (s : Shared) (H : Hp) (k : Nat) (q : Str) (f c' : Addr) (tl : XK → Hp → VK → Prop) : Prop where
  obj : ∀ (s1 : Shared) (H1 : Hp), Un (frs st) [] H H1 s.heap s1.heap → PySem.W.FnAt f s1.heap
  run : ∀ (A : Around) (outer : List Env) (s1 : Shared) (H1 : Hp) (Q : VK) (E : XK), Room (k + 1) A → Env0 P w K mg base A outer s1 H1 → Un (frs st) [] H H1 s.heap s1.heap → H1 c' = some (CodeO c' q) → tl E H1 Q →
    codeAny (model P w) A (.call (.ref f) ⟨[], []⟩) (CR (L2.CX P w) outer P w H1 s1 Q E) s1
section
variable {X : Cx} {pins : List (Addr × Obj)} {σ : L2.St} {H : Hp} {s : Shared}
/-- a lambda just made is such a thing -/
theorem thk_of {f c' : Addr} {pm ctv : Value} {params : Arguments} {body : Expr} {scope : Scope} {k : Nat} {t : XK → TE} (I : Inv X pins σ H s) (L : LamS X.env.scope scope)
    (hf : s.heap.get? f = some (PySem.W.kla_obj "<lambda>" (X.env.qual ++ "<lambda>") params body scope (cloFrom X.env.cells scope.names []) pm c' ctv)) (hfn : H f = none) (hfr : f ∉ frs X.stack)
    (hbind : ∀ (q : Str) (cl : List (Str × Addr)) (pm cv ctv : Value), bindArgs (PySem.W.kla_fn "<lambda>" q params body scope cl pm cv ctv) ⟨[], []⟩ = pure [])
    (hbody : ∀ (A : Around) (outer : List Env) (s : Shared) (H : Hp) (E : XK), Room k (A.deeper (lamEnv X scope s.heap.objs.size f c')) → PE (lamCx X A outer s H E scope f c') body (t E)) :
    Thk X.prog X.w X.K X.mg X.base X.stack s H k (X.env.qual ++ "<lambda>") f c' (fun E H' Q' => t E σ H' Q') := by
  have look : ∀ (s1 : Shared) (H1 : Hp), Un (frs X.stack) [] H H1 s.heap s1.heap → s1.heap.get? f = some (PySem.W.kla_obj "<lambda>" (X.env.qual ++ "<lambda>") params body scope (cloFrom X.env.cells scope.names []) pm c' ctv) :=
    fun s1 H1 un => un.keep f _ hf hfn hfr (by simp)
  refine ⟨fun s1 H1 un => ⟨_, _, _, _, look s1 H1 un⟩, fun A outer s1 H1 Q E hr e0 un hc ht => ?_⟩
  obtain ⟨⟨oc, vs, tk, g1, g2, g3⟩, _⟩ := e0.hok c' _ hc
  refine PySem.W.kla_callFunE hr.depth (look s1 H1 un) rfl L.co L.gen rfl ⟨c', oc, vs, tk, rfl, g1, g2, g3⟩ ?_
  rw [hbind]
  refine wpAny_pure (wpAny_newFunctionEnv (fun y hy => (L.own y hy).2) (fun y hy => absurd hy (by simp)) (fun h₁ hns hsb => ⟨(e0.mod.nolimit.keeps fun b o e => (e0.bs b o e).1).fresh _ hsb, ?_⟩) L.kind)
  have kp : ∀ b o, s1.heap.get? b = some o → h₁.get? b = some o := fun b o e => hsb.extBut b o (Nat.ne_of_lt (Heap.lt_size e)) (Heap.get?_push_of_some _ e)
  have J := lam_start2 (E := E) (f := f) (c' := c') (tk := s1.toks + ([] : List (Str × Value)).length) I L e0 hr.hd un hns kp
  refine PySem.W.kla_codeExpr (wpAny_mono ((hbody A outer s1 H1 E (hr.deeper _)).run [] _ _ H1 Q J ht) (fun v s' hq => ?_) fun e s' hq => hq)
  obtain ⟨w', H', J', rv, q⟩ := hq
  exact ⟨w', H', J'.os, J'.bare, J'.base, J'.hok, rv, q⟩
/-- what changed since the entry, seen from the callers -/
theorem un_from (hex : X.ex = []) (I : Inv X pins σ H s) {H1 : Hp} {h1 : Heap} (un : Un (frs X.stack) [] H H1 s.heap h1) : Un X.fs [] X.H_0 H1 X.s_0.heap h1 := by
  have B : Un X.fs [] X.H_0 H X.s_0.heap s.heap := by
    have z := I.base
    rw [hex] at z
    exact z
  have nst : ∀ b o, X.s_0.heap.get? b = some o → b ∉ X.fs → b ∉ frs X.stack := fun b o e hb hm => by
    rcases List.mem_cons.mp (I.stkSub b hm) with z | z
    · have h1 := Heap.lt_size e
      have h2 := I.ok.above
      rw [z] at h1
      exact absurd (Nat.lt_of_lt_of_le h1 h2) (Nat.lt_irrefl _)
    · exact hb z
  refine ⟨fun b o e n hb hx => ?_, fun b o e n hb hx => ?_, fun b o e n hx => ?_, fun b o e hx => ?_, fun b xs e => un.tups b xs (B.tups b xs e), fun b o u e => un.frzs b o u (B.frzs b o u e), fun b ps e => ?_⟩
  · exact un.keep b o (B.keep b o e n hb hx) (B.free b o e n hx) (nst b o e hb) hx
  · obtain ⟨sl, z⟩ := B.slot b o e n hb hx
    obtain ⟨sl', z'⟩ := un.any z (B.free b o e n hx) hx
    exact ⟨sl', z'⟩
  · obtain ⟨o', z⟩ := B.there b o e hx
    exact un.free b o' z (B.free b o e n hx) hx
  · obtain ⟨o', z⟩ := B.there b o e hx
    exact un.there b o' z hx
  · obtain ⟨m1, z⟩ := B.tbls b ps e
    obtain ⟨m2, z'⟩ := un.tbls b _ z
    exact ⟨m1 ++ m2, by rw [z', Array.append_assoc]⟩
variable {k : Nat} {q : Str} {f c' : Addr} {tl : XK → Hp → VK → Prop}
/-- one frame further in -/
theorem Thk.on (T : Thk X.prog X.w X.K X.mg X.base X.outer X.s_0 X.H_0 k q f c' tl) (hex : X.ex = []) (I : Inv X pins σ H s) : Thk X.prog X.w X.K X.mg X.base X.stack s H k q f c' tl :=
  ⟨fun s1 H1 un => T.obj s1 H1 (un_from hex I un), fun A outer s1 H1 Q E hr e0 un => T.run A outer s1 H1 Q E hr e0 (un_from hex I un)⟩
def tThk (i : Nat) (f c' : Addr) (q : Str) (tl : XK → Hp → VK → Prop) (E : L2.St → XK) : TE := fun σ H Q => σ[i]? = some (some (.ref f)) ∧ H c' = some (CodeO c' q) ∧ tl (E σ) H Q
/-- a() -/
theorem pe_thk {i j : Nat} {a : Str} {E : L2.St → XK} {p1 p2 : Pos} (T : Thk X.prog X.w X.K X.mg X.base X.outer X.s_0 X.H_0 k q f c' tl) (hex : X.ex = []) (hr : Room j X.A) (hx : ∀ σ, PassesAt (L2.CX X.prog X.w) X σ (E σ)) (hN : X.N[i]? = some a) (hv : Vis X.env.scope a) (hj : k + 1 ≤ j)
    (hd : (a == ("__debug__" : Str)) = false := by decide) (hcd : (a == ("__classdict__" : Str)) = false := by decide) : PE X (.Call (.Name a p1) [] [] p2) (tThk i f c' q tl E) := by
  refine ⟨fun pins s σ H Q I h => ?_⟩
  obtain ⟨hs, hc, ht⟩ := h
  refine wpAny_Call_Name_kw (thn ((pe_var (pos := p1) (i := i) hN hv hd hcd).run pins s σ H (fun v H1 => v = .ref f ∧ H1 = H) I ⟨.ref f, hs, rfl, rfl⟩) fun u s1 ⟨v, H1, I1, r1, ev, eH⟩ => ?_)
  subst ev eH
  obtain rfl : u = Value.ref f := r1
  have T1 := T.on hex I1
  refine PySem.W.callWith_F0 (T1.obj s1 H1 Un.refl) (wpAny_call (codeAny_mono (T1.run X.A X.stack s1 H1 Q (E σ) (hr.mono hj) I1.env0 Un.refl hc ht) fun r s' hq => ?_))
  cases r with
  | error e => exact hx σ pins H1 s1 e s' I1 hq
  | ok fl => cases fl with
    | ret u => exact I1.after hq
    | _ => exact False.elim hq
end
/-- a def that gets such a thing first -/
abbrev SpT := (XK → Hp → VK → Prop) → Addr → Addr → Str → Sp
structure OkT (P : Program) (w : World) (K : PySem.W.Frag) (mg : Str → Option Value) (base : Heap) (CX : CXT) (gd : Around → Prop) (k kt : Nat) (x : Str) (st : Stmt) (ps : List Str) (sp : SpT) : Prop where
  ex : ∃ f fd, mg x = some (.ref f) ∧ FnP K x st f fd ∧ Binds K fd ps [] ∧
    ∀ (A : Around) (outer : List Env) (s : Shared) (H : Hp) (args : Args) (us : List Value) (vs : List V) (Q : VK) (E : XK) (q : Str) (g c' : Addr) (tl : XK → Hp → VK → Prop), gd A → Room k A → Env0 P w K mg base A outer s H → Thk P w K mg base outer s H kt q g c' tl →
      BindsTo s fd args (ps.zip us) → Vals vs us → vs.length = ps.length → sp tl g c' q vs H Q E → codeAny (model P w) A (.call (.ref f) args) (CR CX outer P w H s Q E) s
theorem okT_of {P : Program} {w : World} {K : PySem.W.Frag} {mg : Str → Option Value} {base : Heap} {CX : CXT} {gd : Around → Prop} {k kt : Nat} {x : Str} {st : Stmt} {N ps : List Str} {sp : SpT} {f : Addr} {fd : FuncData} (g : mg x = some (.ref f)) (D : FnP K x st f fd) (b : Binds K fd ps []) (S : FnScope N ps (defScope st))
    (hbody : ∀ (cdv : Value) (A : Around) (outer : List Env) (s : Shared) (H : Hp) (vs : List V) (Q : VK) (E : XK) (q : Str) (g c' : Addr) (tl : XK → Hp → VK → Prop), gd A → Thk P w K mg base outer s H kt q g c' tl → Room k (A.deeper (envOfC x (defScope st) s.heap.objs.size f cdv)) → sp tl g c' q vs H Q E →
      ∃ t, PSs (cxOf CX P w K mg base N x (defScope st) f cdv A outer s H E) (defBody st) t ∧ t { nx := fun _ H' => Q .non H', rt := Q } (start N vs) H) : OkT P w K mg base CX gd (k + 1) kt x st ps sp := by
  refine ⟨f, fd, g, D, b, fun A outer s H args us vs Q E q gf c' tl hgd hr e0 T hb r hl h => ?_⟩
  obtain ⟨oc, od, dV, kV, doc, pm, an, cdv, ct, osl, rfl, lk, hcd, _, _⟩ := D.ex
  exact run_ofS lk hcd S hr e0 hb r hl fun hr' => hbody cdv A outer s H vs Q E q gf c' tl hgd T hr' h
section
variable {X : Cx} {CX : CXT} {gd : Around → Prop} {k kt j : Nat} {x : Str} {st : Stmt} {ps : List Str} {sp : SpT} {E : XK} {q : Str} {g c' : Addr} {tl : XK → Hp → VK → Prop} {e : Expr} {es : List Expr} {t : TA} {p pos : Pos}
/-- x(a, ..), a such a thing that this def got itself -/
theorem pe_clT (F : OkT X.prog X.w X.K X.mg X.base CX gd k kt x st ps sp) (hgd : gd X.A) (T : Thk X.prog X.w X.K X.mg X.base X.outer X.s_0 X.H_0 kt q g c' tl) (hex : X.ex = []) (hr : Room j X.A) (hg : Gl X x) (hx : Passes CX X E) (ha : PA X (e :: es) t) (hlen : ∀ vs H Q E, sp tl g c' q vs H Q E → vs.length = ps.length) (hj : k ≤ j := by decide)
    (hdb : (x == ("__debug__" : Str)) = false := by decide) (he : starEach (e :: es) X.env = (false, eval e X.env) :: starEach es X.env := by rfl) (hpl : (backTo pos (starEach es X.env)).any (·.1) = false := by rfl) :
    PE X (.Call (.Name x p) (e :: es) [] pos) (tCall (sp tl g c' q) [] E t) := by
  obtain ⟨f, fd, gg, D, b, F⟩ := F.ex
  refine ⟨fun pins s σ H Q I h => ?_⟩
  refine wpAny_Call_Name_kw (ld_glob I hg gg ?_ hdb)
  refine PySem.W.callWith_K (h₀ := X.base) I.ok.mod.kin D.kp (thn (ha.run pos pins s σ H _ I h) fun us s1 ⟨vs, H1, I1, r, h1⟩ => ⟨I1.kIn, ?_⟩) he hpl
  have h1 : sp tl g c' q (vs ++ []) H1 Q E := h1
  rw [List.append_nil] at h1
  have hl := hlen _ _ _ _ h1
  have hb := b s1 us I1.kIn (by rw [List.append_nil, ← r.length]; exact hl)
  rw [List.append_nil] at hb
  refine wpAny_call (codeAny_mono (F X.A X.stack s1 H1 ⟨us, []⟩ us vs Q E q g c' tl hgd (hr.mono hj) I1.env0 (T.on hex I1) hb r hl h1) fun r s' hq => ?_)
  cases r with
  | error e => exact hx pins σ H1 s1 e s' I1 hq
  | ok fl => cases fl with
    | ret u => exact I1.after hq
    | _ => exact False.elim hq
/-- x(lambda: body, ..) -/
def tLamT (T : List (Addr × Str)) (q : Str) (sp : SpT) (tl : XK → TE) (E : XK) (ta : TA) : TE := fun σ H Q => Tabs T H ∧ ∀ (f c' : Addr) (H1 : Hp), ExtN H H1 → Tabs T H1 → H1 c' = some (CodeO c' q) →
  ta σ H1 fun vs H2 => H2 c' = some (CodeO c' q) ∧ sp (fun E H' Q' => tl E σ H' Q') f c' q (.ref f :: vs) H2 Q E
theorem pe_lamT {T : List (Addr × Str)} {c Pt : Addr} {params : Arguments} {body : Expr} {scope : Scope} {tb : XK → TE} {lpos : Pos} (F : OkT X.prog X.w X.K X.mg X.base CX gd k kt x st ps sp) (hgd : gd X.A) (hs : X.stack = X.env :: X.outer) (hfr : X.env.frame = some X.env.locals) (TB : TabB X.base X.mg c Pt) (hcode : X.env.code = .ref c)
    (hmT : (Pt, X.env.qual ++ "<lambda>") ∈ T) (hu : ∀ p ∈ T, p.1 = Pt → p.2 = X.env.qual ++ "<lambda>") (hr : Room j X.A) (hg : Gl X x) (hx : Passes CX X E) (L : LamS X.env.scope scope) (hdef : defaultsOf params X.env = ([], []))
    (hbind : ∀ (q : Str) (cl : List (Str × Addr)) (pm cv ctv : Value), bindArgs (PySem.W.kla_fn "<lambda>" q params body scope cl pm cv ctv) ⟨[], []⟩ = pure [])
    (hbody : ∀ (A : Around) (outer : List Env) (s : Shared) (H : Hp) (E : XK) (f c' : Addr), Room kt (A.deeper (lamEnv X scope s.heap.objs.size f c')) → PE (lamCx X A outer s H E scope f c') body (tb E))
    (ha : PA X es t) (hlen : ∀ tl g c' q vs H Q E, sp tl g c' q vs H Q E → vs.length = ps.length) (hj : k ≤ j := by decide)
    (hdb : (x == ("__debug__" : Str)) = false := by decide) (he : starEach (.Lambda params body scope lpos :: es) X.env = (false, eval (.Lambda params body scope lpos) X.env) :: starEach es X.env := by rfl) (hpl : (backTo pos (starEach es X.env)).any (·.1) = false := by rfl) :
    PE X (.Call (.Name x p) (.Lambda params body scope lpos :: es) [] pos) (tLamT T (X.env.qual ++ "<lambda>") sp tb E t) := by
  obtain ⟨f, fd, gg, D, b, F⟩ := F.ex
  refine ⟨fun pins s σ H Q I h => ?_⟩
  obtain ⟨hT, h⟩ := h
  refine wpAny_Call_Name_kw (ld_glob I hg gg ?_ hdb)
  refine PySem.W.callWith_K (h₀ := X.base) I.ok.mod.kin D.kp ?_ he hpl
  rw [he]
  show wpAny _ _ (spliced ((false, eval (.Lambda params body scope lpos) X.env) :: backTo pos (starEach es X.env))) _ _ s
  refine Calls.spliced_cons (lam_make2 I TB hcode hmT hu hT hdef (L.has I.ok) fun lf c' pm' ctv H1 s' I1 eN T1 hf hfn hfs hco => ?_)
  have nL : lf ≠ X.env.locals := fun z => hfs (List.mem_filterMap.mpr ⟨X.env, by rw [hs]; exact List.mem_cons_self, by rw [hfr, z]⟩)
  have nF : lf ∉ X.fs := fun hm => by
    obtain ⟨e, he, z⟩ := List.mem_filterMap.mp hm
    exact hfs (List.mem_filterMap.mpr ⟨e, by rw [hs]; exact List.mem_cons_of_mem _ he, z⟩)
  have I1' : Inv X ((lf, PySem.W.kla_obj "<lambda>" (X.env.qual ++ "<lambda>") params body scope (cloFrom X.env.cells scope.names []) pm' c' ctv) :: pins) σ H1 s' := ⟨I1.ok, I1.os, I1.bare, I1.base, I1.loc, I1.cell, I1.free, I1.freeC, fun p hp => by
    rcases List.mem_append.mp hp with z | z
    · exact I1.pin p (List.mem_append_left _ z)
    · rcases List.mem_cons.mp z with z | z
      · rw [z]
        exact ⟨hf, hfn, nL, nF, fun v z => nomatch z⟩
      · exact I1.pin p (List.mem_append_right _ z), I1.hok, I1.len⟩
  refine thn (ha.run pos _ s' σ H1 _ I1' (h lf c' H1 eN T1 hco)) fun us s2 ⟨vs, H2, I2, r, hc2, h2⟩ => ⟨I2.kIn, ?_⟩
  obtain ⟨hf2, hfn2, _⟩ := I2.pin _ (List.mem_append_right _ List.mem_cons_self)
  have I2' : Inv X pins σ H2 s2 := ⟨I2.ok, I2.os, I2.bare, I2.base, I2.loc, I2.cell, I2.free, I2.freeC, fun p hp => I2.pin p (by
    rcases List.mem_append.mp hp with z | z
    · exact List.mem_append_left _ z
    · exact List.mem_append_right _ (List.mem_cons_of_mem _ z)), I2.hok, I2.len⟩
  have TH := thk_of (t := tb) I2' L hf2 hfn2 hfs hbind fun A outer s H E hr2 => hbody A outer s H E lf c' hr2
  have hl := hlen _ _ _ _ _ _ _ _ h2
  have r' : Vals (V.ref lf :: vs) (Value.ref lf :: us) := .cons rfl r
  have hb := b s2 (Value.ref lf :: us) I2'.kIn (by rw [List.append_nil, ← r'.length]; exact hl)
  rw [List.append_nil] at hb
  refine wpAny_call (codeAny_mono (F X.A X.stack s2 H2 ⟨Value.ref lf :: us, []⟩ (Value.ref lf :: us) (V.ref lf :: vs) Q E _ lf c' _ hgd (hr.mono hj) I2'.env0 TH hb r' hl h2) fun r s' hq => ?_)
  cases r with
  | error e => exact hx pins σ H2 s2 e s' I2' hq
  | ok fl => cases fl with
    | ret u => exact I2'.after hq
    | _ => exact False.elim hq
end

/-! ### defs that hold lambdas: their code objects, the tables of these -/
/-- the rule for such a def -/
theorem okC {P : Program} {w : World} {K : PySem.W.Frag} {mg : Str → Option Value} {base : Heap} {CX : CXT} {k : Nat} {x : Str} {st : Stmt} {N ps : List Str} {sp : Sp} {fd : FuncData} (D : FnP K x st (He.ga K x) fd) (S : FnScope N ps (defScope st)) (len : ∀ vs H Q E, sp vs H Q E → vs.length = ps.length)
    (hbody : ∀ (cdv : Value) (A : Around) (outer : List Env) (s : Shared) (H : Hp) (vs : List V) (Q : VK) (E : XK), cdv = .ref (He.cT K (x, none)).1 → Room k (A.deeper (envOfC x (defScope st) s.heap.objs.size (He.ga K x) cdv)) → sp vs H Q E →
      ∃ t, PSs (cxOf CX P w K mg base N x (defScope st) (He.ga K x) cdv A outer s H E) (defBody st) t ∧ t { nx := fun _ H' => Q .non H', rt := Q } (start N vs) H) : FnOk P w K mg base CX (k + 1) (He.ga K x) fd ps sp := by
  obtain ⟨oc, od, dV, kV, doc, pm, an, cdv, ct, osl, rfl, lk, hcd, _, _⟩ := D.ex
  obtain ⟨c, rfl⟩ := He.codeIn_ref hcd
  have ec : He.codeOf K (x, none) = c := He.codeOf_eq (p := (x, none)) lk rfl
  exact fn_of lk hcd S len fun A outer s H vs Q E hr hsp => hbody (.ref c) A outer s H vs Q E (by rw [← ec] <;> rfl) hr hsp
/-- the tables of these defs, the lambda's qualified name -/
def tabs (K : PySem.W.Frag) (tf : List He.Defn) : List (Addr × Str) := tf.map fun p => ((He.cT K p).2, (p.1 ++ ".<locals>.") ++ "<lambda>")
theorem tabs_mem {K : PySem.W.Frag} {tf : List He.Defn} {p : He.Defn} (h : p ∈ tf) : ((He.cT K p).2, (p.1 ++ ".<locals>.") ++ "<lambda>") ∈ tabs K tf := List.mem_map.mpr ⟨p, h, rfl⟩
/-- no two of them share a table -/
def apartB (K : PySem.W.Frag) (tf : List He.Defn) : Bool := tf.all fun p => tf.all fun q => !decide ((He.cT K q).2 = (He.cT K p).2) || decide (q.1 = p.1)
theorem apart_ok {K : PySem.W.Frag} {tf : List He.Defn} (h : apartB K tf = true) {p : He.Defn} (hp : p ∈ tf) : ∀ r ∈ tabs K tf, r.1 = (He.cT K p).2 → r.2 = (p.1 ++ ".<locals>.") ++ "<lambda>" := fun r hr e => by
  obtain ⟨q, hq, rfl⟩ := List.mem_map.mp hr
  have z := List.all_eq_true.mp (List.all_eq_true.mp h p hp) q hq
  have e : (He.cT K q).2 = (He.cT K p).2 := e
  rw [decide_eq_true e] at z
  have z2 : q.1 = p.1 := of_decide_eq_true (by simpa using z)
  show (q.1 ++ ".<locals>.") ++ "<lambda>" = _
  rw [z2]
/-- what the defs of tf know of the heap at the bottom -/
def TBs (K : PySem.W.Frag) (mg : Str → Option Value) (base : Heap) (tf : List He.Defn) : Prop := ∀ p ∈ tf, TabB base mg (He.cT K p).1 (He.cT K p).2
theorem lawAt_of {l : PySem.W.OpenLaw} {w : World} {K : PySem.W.Frag} {CX : CXT} {k n : Nat} {x : Str} {mg : Str → Option Value} {fa : Addr} {h : Heap} {fl : List He.Fa} {fn : List He.DefD} {tf : List He.Defn} {ex : PySem.W.Frag → Bool} {fd : FuncData} {sp : Sp} (KX : K.In h) (c : He.SaysX fl fn [] tf ex w h K)
    (hb : ∀ (s : Shared) (u : Value), BindsTo s fd ⟨[u], []⟩ [(x, u)])
    (hsp : ∀ (H : Hp) (a : Addr) (ns : List Int), ns.length ≤ n → Tabs (tabs K tf) H → SqL K H a (ns.map V.int) → sp [.ref a] H (fun v _ => v = .bl true) fun _ _ _ => False)
    (F : ∀ base : Heap, K.In base → base.Ns mainGlobals mg → TBs K mg base tf → FnOk l.prog w K mg base CX k fa fd [x] sp) : LawAtS l w K CX k n x mg fa h := by
  have fw : ∀ {φ : Addr × Addr → Prop}, (∀ p ∈ tf, φ (He.cT K p)) → ∀ q ∈ tf.map (He.cT K), φ q := fun h q hq => by
    obtain ⟨p, hp, rfl⟩ := List.mem_map.mp hq
    exact h p hp
  refine ⟨fd, tf.map (He.cT K), sp, fw c.empty, fw c.out, fw fun p hp => PySem.W.codeHd_of_K KX (c.hd p hp), hb, fun H a ns hl _ hH hS => hsp H a ns hl (fun r hr => ?_) hS, fun base hK hN hT => F base hK hN fun p hp => hT _ (List.mem_map.mpr ⟨p, hp, rfl⟩)⟩
  obtain ⟨p, hp, rfl⟩ := List.mem_map.mp hr
  exact TabS.nil (hH _ (List.mem_map.mpr ⟨p, hp, rfl⟩))

/-! ### short words -/
def clsMeth (st : Stmt) (j : Nat) : Stmt := match st with
  | .ClassDef (body := b) .. => b.getD j (.Pass ⟨0, 0, 0, 0⟩)
  | _ => .Pass ⟨0, 0, 0, 0⟩
theorem TBs.at {K : PySem.W.Frag} {mg : Str → Option Value} {base : Heap} {tf : List He.Defn} (t : TBs K mg base tf) {p : He.Defn} (h : p ∈ tf) : TabB base mg (He.cT K p).1 (He.cT K p).2 := t p h
section
variable {K : PySem.W.Frag} {H H1 H2 : Hp} {Q : VK} {σ : L2.St} {D : Ends} {te : TE} {ta : TA}
theorem r_xv {n : Str} (h : te σ H fun x H1 => ∃ (a C dd : Addr) (fs : List (Str × V)) (v : V), x = .ref a ∧ H1 a = some (ExcV (.ref C) (some dd) a) ∧ H1 dd = some (.xd fs) ∧ XfC K C ∧ PySem.W.findIn K (.ref C) n = some none ∧ fs.lookup n = some v ∧ Q v H1) : tXv K n te σ H Q := h
theorem r_lamT {T : List (Addr × Str)} {q : Str} {sp : SpT} {tl : XK → TE} {E : XK} (hT : Tabs T H) (h : ∀ (f c' : Addr) (H1 : Hp), ExtN H H1 → Tabs T H1 → H1 c' = some (CodeO c' q) → ta σ H1 fun vs H2 => H2 c' = some (CodeO c' q) ∧ sp (fun E H' Q' => tl E σ H' Q') f c' q (.ref f :: vs) H2 Q E) : tLamT T q sp tl E ta σ H Q := ⟨hT, h⟩
theorem r_thk {i : Nat} {f c' : Addr} {q : Str} {tl : XK → Hp → VK → Prop} {E : L2.St → XK} (h1 : σ[i]? = some (some (.ref f))) (h2 : H c' = some (CodeO c' q)) (h : tl (E σ) H Q) : tThk i f c' q tl E σ H Q := ⟨h1, h2, h⟩
theorem r_asV {tb : WX → TS} {c : Value} {i : Nat} {ts : Addr → Value → Option Addr → TS} {Wout : WX} (h : tb (wAsV K c i ts Wout D) D σ H) : (fun D σ H => tb (wAsV K c i ts Wout D) D σ H) D σ H := h
/-- all but the tables stays: lists, tuples -/
theorem extN_sqt {a : Addr} {xs : List V} (e : ExtN H H1) (h : SqT K H a xs) : SqT K H1 a xs := by
  rcases h with h | h
  · rcases h with h | ⟨o, h⟩
    · exact .inl (.inl (e _ _ h fun ps z => nomatch z))
    · exact .inl (.inr ⟨o, e _ _ h fun ps z => nomatch z⟩)
  · exact .inr h
theorem extN_sql {a : Addr} {xs : List V} (e : ExtN H H1) (h : SqL K H a xs) : SqL K H1 a xs := by
  rcases h with h | h
  · rcases h with h | ⟨o, h⟩
    · exact .inl (.inl (e _ _ h fun ps z => nomatch z))
    · exact .inl (.inr ⟨o, e _ _ h fun ps z => nomatch z⟩)
  · exact .inr h
/-- all but the tables and one object -/
def ButT (a : Addr) (H H' : Hp) : Prop := ∀ b o, b ≠ a → H b = some o → (∀ ps, o ≠ .tbl ps) → H' b = some o
variable {a : Addr}
theorem ButT.refl : ButT a H H := fun _ _ _ h _ => h
theorem ButT.trans (x : ButT a H H1) (y : ButT a H1 H2) : ButT a H H2 := fun b o n h t => y b o n (x b o n h t) t
theorem ButT.ofB (x : But a H H1) : ButT a H H1 := fun b o n h _ => x b o n h
theorem ButT.ofN (x : ExtN H H1) : ButT a H H1 := fun b o _ h t => x b o h t
theorem ButT.of (x : Same H H1) : ButT a H H1 := fun b o _ h _ => x b o h
theorem tabs_but {T : List (Addr × Str)} (t : Tabs T H) (x : But a H H1) (h : ∀ ps, H a ≠ some (.tbl ps)) (h2 : ∀ c q, H a ≠ some (CodeO c q)) : Tabs T H1 := fun p hp => by
  obtain ⟨ps, h1, h3, h4⟩ := t p hp
  refine ⟨ps, x _ _ (fun z => h ps (z ▸ h1)) h1, h3, fun pos cv hc => ?_⟩
  obtain ⟨c, e1, e2⟩ := h4 pos cv hc
  exact ⟨c, e1, x _ _ (fun z => h2 c p.2 (z ▸ e2)) e2⟩
theorem codeO_lst {c : Addr} {q : Str} {xs : List V} : CodeO c q ≠ .lst xs := fun z => by
  unfold CodeO at z
  cases z
theorem tabs_pot {T : List (Addr × Str)} {c : Int} (t : Tabs T H) (P : PotAt H a c) (x : But a H H1) : Tabs T H1 := by
  obtain ⟨o, sd, n, e, _⟩ := P
  exact tabs_but t x (fun ps z => by rw [e] at z; cases z) fun c q z => by rw [e] at z; exact codeO_lst (Option.some.inj z).symm
theorem PotAt.extN {c : Int} (P : PotAt H a c) (x : ExtN H H1) : PotAt H1 a c := by
  obtain ⟨o, sd, n, e, r⟩ := P
  exact ⟨o, sd, n, x _ _ e (fun ps z => nomatch z), r⟩
theorem tabs_same {T : List (Addr × Str)} (t : Tabs T H) (e : Same H H1) : Tabs T H1 := t.ext e
theorem extN_same (e : Same H H1) : ExtN H H1 := fun b o h _ => e b o h
end
theorem inV_two {x a b : List Nat} : inV (.str (S x)) [.str (S a), .str (S b)] = (decide (x = a) || decide (x = b)) := by
  show ((S a == S x) || ((S b == S x) || false)) = _
  rw [S_beq, S_beq, Bool.or_false, decide_eq_decide.mpr (eq_comm (a := a)), decide_eq_decide.mpr (eq_comm (a := b))]
theorem r_in2 {K : PySem.W.Frag} {H : Hp} {Q : VK} {p : Addr} {x a b : List Nat} (hs : SqT K H p [.str (S a), .str (S b)]) (q : Q (.bl (decide (x = a) || decide (x = b))) H) : rIn K false (.str (S x)) (.ref p) H Q :=
  ⟨p, _, rfl, .inr hs, rfl, rfl, by rw [inV_two]; exact q⟩
theorem r_endV {i : Nat} {a : Addr} {cls : Value} {d : Option Addr} {D : Ends} {σ : L2.St} {H : Hp} (h : D.nx (σ.set i none) (upd H a (ExcV cls d a))) : (endV i a cls d D).nx σ H := h
theorem ExtN.mut {H H1 : Hp} {p : Addr} {o : HO} (e : ExtN H H1) (h : H p = none) : ExtN H (upd H1 p o) := fun b u q n => by
  rw [upd_ne (ne_of_none q h)]
  exact e b u q n
theorem tabs_mut {T : List (Addr × Str)} {H : Hp} {D : Addr} {xs : List V} {o : HO} (t : Tabs T H) (h : H D = some (.lst xs)) : Tabs T (upd H D o) :=
  tabs_but t (a := D) (fun b u n q => by rw [upd_ne n]; exact q) (fun ps z => by rw [h] at z; cases z) fun c q z => by rw [h] at z; exact codeO_lst (Option.some.inj z).symm
theorem tabs_new {T : List (Addr × Str)} {H : Hp} {p : Addr} {o : HO} (t : Tabs T H) (h : H p = none) : Tabs T (upd H p o) := t.ext (same_new h)
theorem wd_rep {n c : Nat} (h : c = 110 ∨ c = 102 ∨ c = 115) : Wd (List.replicate n c) := fun x hx => by rw [(List.mem_replicate.mp hx).2]; exact h
theorem wd_seg {h r : List Nat} {a n : Nat} (r0 : 0 < r.length) (wh : Wd h) (wr : Wd r) : Wd (seg (rw h r) a n) := fun c hc => by
  obtain ⟨j, _, rfl⟩ := List.mem_map.mp hc
  by_cases e : a + j < h.length
  · rw [rw_lt e, List.getD_eq_getElem?_getD, List.getElem?_eq_getElem e]
    exact wh _ (List.getElem_mem e)
  · rw [rw_ge (by omega)]
    have e2 : (a + j - h.length) % r.length < r.length := Nat.mod_lt _ r0
    rw [List.getD_eq_getElem?_getD, List.getElem?_eq_getElem e2]
    exact wr _ (List.getElem_mem e2)
theorem all_at {l : List Bool} (h : l.all id = true) (i : Nat) {b : Bool} (e : l[i]? = some b) : b = true := List.all_eq_true.mp h b (List.mem_of_getElem? e)
end Tf

set_option Elab.async false
set_option linter.all false
set_option maxRecDepth 100000
set_option maxHeartbeats 2000000
/-! defs that are called where nothing is being shown: repr of data -/
namespace Tf
open PySem PySem.Spec PyProof.Rows L2 LamX

/-! ### the bottom of a law -/
/-- what the law's def may lean on where it is called -/
structure Bottom (P : Program) (w : World) (K : PySem.W.Frag) (mg : Str → Option Value) (cs : List (Addr × Addr)) (a : Addr) (ns : List Int) (s : Shared) (base : Heap) (H : Hp) : Prop where
  env : Env0 P w K mg base callerA [] s H
  tabs : ∀ p ∈ cs, TabB base mg p.1 p.2
  emp : ∀ p ∈ cs, H p.2 = some (.tbl #[])
  scr : SqL K H a (ns.map V.int)
section
variable {P : Program} {w : World} {K : PySem.W.Frag} {mg mb : Str → Option Value} {cs : List (Addr × Addr)} {a fa : Addr} {vs : List Value} {ns : List Int} {s : Shared}
theorem bottomed (KX : K.In s.heap) (hG : s.heap.Ns mainGlobals mg) (hB : s.heap.Ns builtinsNs mb) (hbb : ∀ x : Str, x ≠ "__name__" → mb x = bootBuiltins x) (hlim : s.heap.NoLimit) (hg : s.gens = #[])
    (hT : ∀ p ∈ cs, s.heap.get? p.2 = some { cls := .none, data := .fields #[] }) (nT : ∀ p ∈ cs, K.lookup p.2 = none) (hC : ∀ p ∈ cs, PySem.W.CodeHd s.heap p.1 p.2)
    (hM : ∃ (bm : Addr) (ob : Obj), mg "__builtins__" = some (.ref bm) ∧ bm ≠ builtinsNs ∧ s.heap.get? bm = some ob ∧ ob.cls = .type "module" ∧ ob.dict = some builtinsNs ∧ ob.data = .plain)
    (ha : s.heap.get? a = some { cls := .type "list", data := .seq vs.toArray }) (hi : IntsAre vs ns) (hl : ns.length ≤ sizeLine)
    (F : ∀ base H, Bottom P w K mg cs a ns s base H → codeAny (model P w) callerA (.call (.ref fa) ⟨[.ref a], []⟩) (CR CX0 [] P w H s (fun v _ => v = .bl true) E0) s) :
    codeAny (model P w) callerA (.call (.ref fa) ⟨[.ref a], []⟩) (fun r s' => r = .ok (.ret (.bool true)) ∧ OldK s.heap s'.heap ∧ s'.os = s.os ∧ AllBare s'.gens) s := by
  have rv := vals_ints hi
  have atT : ∀ b ∈ cs.map (·.2), s.heap.get? b = some { cls := .none, data := .fields #[] } := fun b hb => by
    obtain ⟨p, hp, rfl⟩ := List.mem_map.mp hb
    exact hT p hp
  have inT : ∀ p ∈ cs, p.2 ∈ cs.map (·.2) := fun p hp => List.mem_map.mpr ⟨p, hp, rfl⟩
  have aT : a ∉ cs.map (·.2) := fun z => by
    have e := ha.symm.trans (atT a z)
    simp at e
  -- the script is tracked, or it stands in the written part
  have go : ∀ tr : Bool, (tr = true → K.lookup a = none) → (tr = false → SqL K (fun b => if b ∈ cs.map (·.2) then some (.tbl #[]) else none) a (ns.map V.int)) →
      codeAny (model P w) callerA (.call (.ref fa) ⟨[.ref a], []⟩) (fun r s' => r = .ok (.ret (.bool true)) ∧ OldK s.heap s'.heap ∧ s'.os = s.os ∧ AllBare s'.gens) s := by
    intro tr htr hns
    obtain ⟨H, eH⟩ : ∃ H : Hp, H = fun b => if tr = true ∧ b = a then some (.frz { cls := .type "list", data := .seq vs.toArray } (.lst (ns.map V.int))) else if b ∈ cs.map (·.2) then some (.tbl #[]) else none := ⟨_, rfl⟩
    have H1 : tr = true → H a = some (.frz { cls := .type "list", data := .seq vs.toArray } (.lst (ns.map V.int))) := fun e => by rw [eH]; exact if_pos ⟨e, rfl⟩
    have H2 : ∀ b ∈ cs.map (·.2), H b = some (.tbl #[]) := fun b hb => by
      rw [eH]
      show (if tr = true ∧ b = a then _ else _) = _
      rw [if_neg (show ¬ (tr = true ∧ b = a) from fun z => aT (by rw [← z.2]; exact hb)), if_pos hb]
    have H3 : ∀ b, b ∉ cs.map (·.2) → ¬ (tr = true ∧ b = a) → H b = none := fun b h1 h2 => by
      rw [eH]
      show (if tr = true ∧ b = a then _ else _) = _
      rw [if_neg h2, if_neg h1]
    clear eH
    -- whatever is neither a list nor empty fields is not tracked
    have un : ∀ {b : Addr} {o : Obj}, s.heap.get? b = some o → (∀ xs n, o.data ≠ .seq xs n) → o.data ≠ .fields #[] → H b = none := fun {b o} e h1 h2 => by
      refine H3 b (fun z => ?_) fun z => ?_
      · rw [atT b z] at e
        cases e
        exact h2 rfl
      · rw [z.2, ha] at e
        cases e
        exact h1 _ _ rfl
    have low : ∀ {b : Addr} {o : Obj}, s.heap.get? b = some o → (∀ xs n, o.data ≠ .seq xs n) → o.data ≠ .fields #[] → (hidT s.heap H).get? b = some o := fun e h1 h2 => hidT_get e (un e h1 h2)
    have nsL : ∀ {b : Addr} {m : Str → Option Value}, s.heap.Ns b m → (hidT s.heap H).Ns b m := fun {b m} ⟨o, es, ep, e, d, r⟩ => ⟨o, es, ep, low e (fun xs n z => by rw [d] at z; cases z) (fun z => by rw [d] at z; cases z), d, r⟩
    have kIn : K.In (hidT s.heap H) := fun b o e => hidT_get (KX b o e) (H3 b (fun z => by
      obtain ⟨p, hp, rfl⟩ := List.mem_map.mp z
      rw [nT p hp] at e
      cases e) fun z => by
      rw [z.2, htr z.1] at e
      cases e)
    have hok : HOk P w H s.heap := fun b u e => by
      by_cases h1 : tr = true ∧ b = a
      · obtain ⟨t, rfl⟩ := h1
        rw [H1 t] at e
        cases e
        exact ⟨ha, by rw [List.length_map]; exact hl, vs, _, rv, ha⟩
      · by_cases h2 : b ∈ cs.map (·.2)
        · rw [H2 b h2] at e
          cases e
          exact atT b h2
        · rw [H3 b h2 h1] at e
          cases e
    have tb : ∀ p ∈ cs, TabB (hidT s.heap H) mg p.1 p.2 := fun p hp => by
      refine ⟨?_, ?_, fun z => ?_⟩
      · obtain ⟨o, us, file, tf, flags, tg, inF, text, tt, e, c1, c2, c3, r⟩ := hC p hp
        refine ⟨o, us, file, tf, flags, tg, inF, text, tt, low e (fun xs n z => by rw [c2] at z; cases z) (fun z => ?_), c1, c2, c3, r⟩
        rw [c2] at z
        cases z
        simp at c3
      · obtain ⟨bm, ob, m1, m2, m3, m4, m5, m6⟩ := hM
        refine ⟨bm, ob, m1, m2, fun z => ?_, fun z => ?_, low m3 (fun xs n z => by rw [m6] at z; cases z) (fun z => by rw [m6] at z; cases z), m4, m5, m6⟩
        · obtain ⟨o, es, ep, e, d, _⟩ := hG
          rw [z, e] at m3
          cases m3
          rw [d] at m6
          cases m6
        · rw [z, hT p hp] at m3
          cases m3
          cases m6
      · obtain ⟨o, es, ep, e, d, _⟩ := hG
        rw [z, hT p hp] at e
        cases e
        cases d
    have e0 : Env0 P w K mg (hidT s.heap H) callerA [] s H := ⟨rfl, ⟨kIn, nsL hG, ⟨mb, nsL hB, hbb⟩, hlim.imp fun m h => ⟨nsL h.1, h.2⟩⟩, fun b o e => of_hidT e, Nat.le_of_eq (hidT_size _ _), trivial, fun b hb => absurd (show b ∈ ([] : List Addr) from hb) (by simp), hok, .of_eq hg⟩
    have scr : SqL K H a (ns.map V.int) := by
      cases tr with
      | true => exact .inl (.inr ⟨_, H1 rfl⟩)
      | false =>
        rcases hns rfl with (z | ⟨o, z⟩) | z
        · cases (if_neg aT).symm.trans z
        · cases (if_neg aT).symm.trans z
        · exact .inr z
    refine codeAny_mono (F _ H ⟨e0, tb, fun p hp => H2 _ (inT p hp), scr⟩) fun r s' h => ?_
    cases r with
    | error e => exact False.elim h
    | ok fl => cases fl with
      | ret u =>
        obtain ⟨v, H', os, bare, un', hok', r', q⟩ := h
        have q : v = .bl true := q
        subst q
        obtain rfl : u = Value.bool true := r'
        have more : ∀ p ∈ cs, ∃ m : Array Value, s'.heap.get? p.2 = some { cls := .none, data := .fields m } := fun p hp => by
          obtain ⟨m, z⟩ := un'.tbls p.2 #[] (H2 _ (inT p hp))
          exact ⟨_, hok' p.2 _ z⟩
        have same : ∀ b o, b ∉ cs.map (·.2) → s.heap.get? b = some o → s'.heap.get? b = some o := fun b o nb e => by
          by_cases h1 : tr = true ∧ b = a
          · obtain ⟨t, rfl⟩ := h1
            obtain ⟨z, _⟩ := hok' b _ (un'.frzs b _ _ (H1 t))
            rw [ha] at e
            cases e
            exact z
          · exact un'.keep b o e (H3 b nb h1) (fun z => absurd (show b ∈ ([] : List Addr) from z) (by simp)) (by simp)
        refine ⟨rfl, ⟨fun b o e => ?_, fun b o e => ?_⟩, os, bare⟩
        · by_cases hb : b ∈ cs.map (·.2)
          · obtain ⟨p, hp, rfl⟩ := List.mem_map.mp hb
            obtain ⟨m, hm⟩ := more p hp
            rw [hT p hp] at e
            cases e
            exact .inr (.inl ⟨((hC p hp).tab (hT p hp)).isCodeTable, rfl, #[], m, rfl, by rw [Array.empty_append]; exact hm⟩)
          · exact .inl (same b o hb e)
        · by_cases hb : b ∈ cs.map (·.2)
          · obtain ⟨p, hp, rfl⟩ := List.mem_map.mp hb
            obtain ⟨m, hm⟩ := more p hp
            exact ⟨_, hm⟩
          · exact ⟨o, same b o hb e⟩
      | _ => exact False.elim h
  cases hk : K.lookup a with
  | none => exact go true (fun _ => hk) fun z => nomatch z
  | some o =>
    have e := KX a o hk
    rw [ha] at e
    cases e
    exact go false (fun z => nomatch z) fun _ => .inr ⟨_, vs.toArray, _, hk, rfl, rfl, rfl, by rw [List.size_toArray, hi.length]; exact hl, by simpa using rv⟩
end

/-! ### data -/
def keyD : Key → PyData
  | .inl i => .int i
  | .inr x => .str x
def okPts (z : Str) : Prop := ∀ c ∈ z.cps.toList, c < 16 ^ 8
def KeyOk : Key → Prop
  | .inl i => i.natAbs.log2 < 1920
  | .inr x => okPts x
mutual
/-- x is the data d -/
def Dat (K : PySem.W.Frag) (z0 : Addr) (H : Hp) : PyData → V → Prop
  | .none, x => x = .non
  | .bool b, x => x = .bl b
  | .int i, x => x = .int i ∧ i.natAbs.log2 < 1920
  | .str z, x => x = .str z ∧ okPts z
  | .list ds, x => ∃ a xs, x = .ref a ∧ a ≠ z0 ∧ SqL K H a xs ∧ DatL K z0 H ds xs
  | .tuple ds, x => ∃ a xs, x = .ref a ∧ SqT K H a xs ∧ DatL K z0 H ds xs
  | .dict kvs, x => ∃ a ps, x = .ref a ∧ H a = some (.dK ps) ∧ DatK K z0 H kvs ps
def DatL (K : PySem.W.Frag) (z0 : Addr) (H : Hp) : List PyData → List V → Prop
  | [], xs => xs = []
  | d :: ds, xs => ∃ x r, xs = x :: r ∧ Dat K z0 H d x ∧ DatL K z0 H ds r
def DatK (K : PySem.W.Frag) (z0 : Addr) (H : Hp) : List (PyData × PyData) → List (Key × V) → Prop
  | [], ps => ps = []
  | (k, d) :: kvs, ps => ∃ kk x r, ps = (kk, x) :: r ∧ k = keyD kk ∧ KeyOk kk ∧ Dat K z0 H d x ∧ DatK K z0 H kvs r
end
mutual
def noList : PyData → Bool
  | .none | .bool _ | .int _ | .str _ => true
  | .list _ => false
  | .tuple ds => noListL ds
  | .dict kvs => noListK kvs
def noListL : List PyData → Bool
  | [] => true
  | d :: ds => noList d && noListL ds
def noListK : List (PyData × PyData) → Bool
  | [] => true
  | (k, d) :: r => noList k && (noList d && noListK r)
end
mutual
/-- how long its text is at most -/
def cap : PyData → Nat
  | .none | .bool _ => 5
  | .int _ => 1921
  | .str z => 10 * z.length + 2
  | .list ds => capL ds + 2
  | .tuple ds => capL ds + 3
  | .dict kvs => capK kvs + 2
def capL : List PyData → Nat
  | [] => 0
  | d :: ds => cap d + 2 + capL ds
def capK : List (PyData × PyData) → Nat
  | [] => 0
  | (k, d) :: r => cap k + cap d + 4 + capK r
end
section
variable {X : Cx} {pins : List (Addr × Obj)} {σ : L2.St} {H : Hp} {s : Shared} {z0 : Addr}
mutual
theorem dat_reads (I : Inv X pins σ H s) : ∀ (d : PyData) {x : V} {u : Value}, Dat X.K z0 H d x → RelV x u → ∃ as, Reads s.heap u d as ∧ (noList d = true → sysModules ∉ as)
  | .none, x, u, h, r => by
    unfold Dat at h
    subst h
    cases r
    exact ⟨[], .none, fun _ z => nomatch z⟩
  | .bool b, x, u, h, r => by
    unfold Dat at h
    subst h
    cases r
    exact ⟨[], .bool b, fun _ z => nomatch z⟩
  | .int i, x, u, h, r => by
    unfold Dat at h
    obtain ⟨rfl, _⟩ := h
    obtain ⟨t, rfl⟩ := r
    exact ⟨[], .int i t, fun _ z => nomatch z⟩
  | .str z, x, u, h, r => by
    unfold Dat at h
    obtain ⟨rfl, _⟩ := h
    obtain ⟨t, rfl⟩ := r
    exact ⟨[], .str z t, fun _ z => nomatch z⟩
  | .list ds, x, u, h, r => by
    unfold Dat at h
    obtain ⟨a, xs, rfl, _, hs, hd⟩ := h
    obtain rfl : u = Value.ref a := r
    obtain ⟨its, rv, ⟨o, n, e, c, _, d⟩, _⟩ := I.list hs
    obtain ⟨as, ra, _⟩ := datL_reads I ds hd rv
    exact ⟨a :: as, .list e c d (by simpa using ra), fun z => by unfold noList at z; cases z⟩
  | .tuple ds, x, u, h, r => by
    unfold Dat at h
    obtain ⟨a, xs, rfl, hs, hd⟩ := h
    obtain rfl : u = Value.ref a := r
    obtain ⟨its, rv, ⟨o, e, c, n, d⟩, _⟩ := I.tuple hs
    obtain ⟨as, ra, ns⟩ := datL_reads I ds hd rv
    exact ⟨as, .tuple e c d (by simpa using ra), fun z => ns (by unfold noList at z; exact z)⟩
  | .dict kvs, x, u, h, r => by
    unfold Dat at h
    obtain ⟨a, ps, rfl, hs, hd⟩ := h
    obtain rfl : u = Value.ref a := r
    obtain ⟨_, hsys, vs, kv, o, es, ep, e, ex, d, ks, pr, _⟩ := (show ObjOk X.prog X.w H s.heap a (.dK ps) from I.hok a _ hs)
    obtain ⟨bs, b1, b2, n2⟩ := datK_reads I kvs hd kv pr
    refine ⟨a :: [] ++ bs, .dict e ex.1 d b1 b2, fun z => ?_⟩
    unfold noList at z
    intro m
    rcases List.mem_cons.mp m with m | m
    · rw [m] at hsys
      simp at hsys
    · exact n2 z m
theorem datL_reads (I : Inv X pins σ H s) : ∀ (ds : List PyData) {xs : List V} {us : List Value}, DatL X.K z0 H ds xs → Vals xs us → ∃ as, ReadsAll s.heap us ds as ∧ (noListL ds = true → sysModules ∉ as)
  | [], xs, us, h, r => by
    unfold DatL at h
    subst h
    cases r
    exact ⟨[], .nil, fun _ z => nomatch z⟩
  | d :: ds, xs, us, h, r => by
    unfold DatL at h
    obtain ⟨x, r', rfl, h1, h2⟩ := h
    cases r with
    | cons r1 r2 =>
      obtain ⟨as, a1, n1⟩ := dat_reads I d h1 r1
      obtain ⟨bs, a2, n2⟩ := datL_reads I ds h2 r2
      refine ⟨as ++ bs, .cons a1 a2, fun z => ?_⟩
      unfold noListL at z
      obtain ⟨z1, z2⟩ := Bool.and_eq_true_iff.mp z
      exact fun m => (List.mem_append.mp m).elim (n1 z1) (n2 z2)
theorem datK_reads (I : Inv X pins σ H s) : ∀ (kvs : List (PyData × PyData)) {ps : List (Key × V)} {vs : List (Key × Value)} {es : List DictEntry}, DatK X.K z0 H kvs ps → KV ps vs → Pairs (mixKind X.prog X.w) es vs →
    ∃ bs, ReadsAll s.heap (es.map (·.key)) (kvs.map (·.1)) [] ∧ ReadsAll s.heap (es.map (·.val)) (kvs.map (·.2)) bs ∧ (noListK kvs = true → sysModules ∉ bs)
  | [], ps, vs, es, h, r, pr => by
    unfold DatK at h
    subst h
    cases r
    cases pr
    exact ⟨[], .nil, .nil, fun _ z => nomatch z⟩
  | (k, d) :: kvs, ps, vs, es, h, r, pr => by
    unfold DatK at h
    obtain ⟨kk, x, r', rfl, rfl, _, h1, h2⟩ := h
    cases r with
    | cons r1 r2 =>
      cases pr with
      | @cons en _ _ _ p1 p2 p3 =>
        obtain ⟨as, a1, n1⟩ := dat_reads I d h1 r1.2
        obtain ⟨bs, b1, b2, n2⟩ := datK_reads I kvs h2 r2 p3
        have key : Reads s.heap en.key (keyD kk) [] := by
          rcases keyIs_shape (show keyIs _ _ = true from p1) with ⟨i, t, e1, e2⟩ | ⟨z, t, e1, e2⟩
          · rw [show kk = .inl i from r1.1.trans e1]
            exact e2 ▸ Reads.int i t
          · rw [show kk = .inr z from r1.1.trans e1]
            exact e2 ▸ Reads.str z t
        refine ⟨as ++ bs, by exact ReadsAll.cons (as := []) (bs := []) key b1, by simpa [p2] using ReadsAll.cons a1 b2, fun z => ?_⟩
        unfold noListK at z
        obtain ⟨_, z⟩ := Bool.and_eq_true_iff.mp z
        obtain ⟨z1, z2⟩ := Bool.and_eq_true_iff.mp z
        exact fun m => (List.mem_append.mp m).elim (n1 z1) (n2 z2)
end
end
mutual
theorem dat_show {K : PySem.W.Frag} {H : Hp} {z0 : Addr} : ∀ (d : PyData) {x : V}, Dat K z0 H d x → d.showable = true
  | .none, x, h => by simp only [PyData.showable]
  | .bool b, x, h => by simp only [PyData.showable]
  | .int i, x, h => by
    unfold Dat at h
    simp only [PyData.showable, decide_eq_true_eq]
    exact h.2
  | .str z, x, h => by simp only [PyData.showable]
  | .list ds, x, h => by
    unfold Dat at h
    obtain ⟨a, xs, _, _, _, h⟩ := h
    simp only [PyData.showable]
    exact datL_show ds h
  | .tuple ds, x, h => by
    unfold Dat at h
    obtain ⟨a, xs, _, _, h⟩ := h
    simp only [PyData.showable]
    exact datL_show ds h
  | .dict kvs, x, h => by
    unfold Dat at h
    obtain ⟨a, xs, _, _, h⟩ := h
    simp only [PyData.showable]
    exact datK_show kvs h
theorem datL_show {K : PySem.W.Frag} {H : Hp} {z0 : Addr} : ∀ (ds : List PyData) {xs : List V}, DatL K z0 H ds xs → PyData.showableAll ds = true
  | [], xs, h => by simp only [PyData.showableAll]
  | d :: ds, xs, h => by
    unfold DatL at h
    obtain ⟨x, r, _, h1, h2⟩ := h
    simp only [PyData.showableAll, dat_show d h1, datL_show ds h2, Bool.and_self]
theorem datK_show {K : PySem.W.Frag} {H : Hp} {z0 : Addr} : ∀ (kvs : List (PyData × PyData)) {ps : List (Key × V)}, DatK K z0 H kvs ps → PyData.showableKv kvs = true
  | [], xs, h => by simp only [PyData.showableKv]
  | (k, d) :: kvs, xs, h => by
    unfold DatK at h
    obtain ⟨kk, x, r, _, rfl, hk, h1, h2⟩ := h
    have : (keyD kk).showable = true := by
      cases kk with
      | inl i =>
        show PyData.showable (.int i) = true
        simp only [PyData.showable, decide_eq_true_eq]
        exact hk
      | inr z =>
        show PyData.showable (.str z) = true
        simp only [PyData.showable]
    simp only [PyData.showableKv, this, dat_show d h1, datK_show kvs h2, Bool.and_self]
end
theorem text_le {ts : List Str} {n : Nat} (h : piled ts ≤ n) : (listText ts).length ≤ n + 2 ∧ (tupleText ts).length ≤ n + 3 ∧ (dictText ts).length ≤ n + 2 := by
  cases ts with
  | nil => exact ⟨by show 2 ≤ n + 2; omega, by show 2 ≤ n + 3; omega, by show 2 ≤ n + 2; omega⟩
  | cons t r =>
    have j := join_length_add (t :: r) (by simp)
    refine ⟨?_, ?_, ?_⟩
    · have h1 := textFrom_length_pos r 1 (("[" : Str) ++ (if (0 : Nat) > 0 then ", " else "" : String) ++ t) (by decide)
      have h2 : (("[" : Str) ++ (if (0 : Nat) > 0 then ", " else "" : String) ++ t).length = 1 + t.length := by
        rw [strLen_append, strLen_append] <;> rfl
      have h3 : (listText (t :: r)).length = (textFrom 1 (("[" : Str) ++ (if (0 : Nat) > 0 then ", " else "" : String) ++ t) r).length + 1 := by
        show (textFrom 0 "[" (t :: r) ++ "]").length = _
        rw [strLen_append] <;> rfl
      rw [piled_cons] at h
      omega
    · unfold tupleText
      rw [strLen_append, strLen_append]
      have h1 : ((("(" : String) : Str)).length = 1 := rfl
      have h2 : (((if (t :: r).length == 1 then ",)" else ")" : String) : Str)).length ≤ 2 := by split <;> decide
      omega
    · unfold dictText
      rw [strLen_append, strLen_append]
      have h1 : ((("{" : String) : Str)).length = 1 := rfl
      have h2 : ((("}" : String) : Str)).length = 1 := rfl
      omega
theorem int_cap {i : Int} (h : i.natAbs.log2 < 1920) : (Str.ofString (toString i)).length ≤ 1921 := by
  have e := int_text_length_le (k := 1920) (by decide) h
  rw [PySem.ofString_length]
  exact e
mutual
theorem dat_cap {K : PySem.W.Frag} {H : Hp} {z0 : Addr} : ∀ (d : PyData) {x : V}, Dat K z0 H d x → d.shown.length ≤ cap d
  | .none, x, h => by simp only [PyData.shown, cap]; decide
  | .bool b, x, h => by simp only [PyData.shown, cap]; cases b <;> decide
  | .int i, x, h => by
    unfold Dat at h
    simp only [PyData.shown, cap]
    exact int_cap h.2
  | .str z, x, h => by
    unfold Dat at h
    simp only [PyData.shown, cap]
    exact StrLaws.reprText_len z h.2
  | .list ds, x, h => by
    unfold Dat at h
    obtain ⟨a, xs, _, _, _, h⟩ := h
    simp only [PyData.shown, cap]
    exact (text_le (datL_cap ds h)).1
  | .tuple ds, x, h => by
    unfold Dat at h
    obtain ⟨a, xs, _, _, h⟩ := h
    simp only [PyData.shown, cap]
    exact (text_le (datL_cap ds h)).2.1
  | .dict kvs, x, h => by
    unfold Dat at h
    obtain ⟨a, xs, _, _, h⟩ := h
    simp only [PyData.shown, cap]
    exact (text_le (datK_cap kvs h)).2.2
theorem datL_cap {K : PySem.W.Frag} {H : Hp} {z0 : Addr} : ∀ (ds : List PyData) {xs : List V}, DatL K z0 H ds xs → piled (PyData.shownAll ds) ≤ capL ds
  | [], xs, h => by simp only [PyData.shownAll, capL, piled_nil]; exact Nat.le_refl _
  | d :: ds, xs, h => by
    unfold DatL at h
    obtain ⟨x, r, _, h1, h2⟩ := h
    have a := dat_cap d h1
    have b := datL_cap ds h2
    simp only [PyData.shownAll, capL, piled_cons]
    omega
theorem datK_cap {K : PySem.W.Frag} {H : Hp} {z0 : Addr} : ∀ (kvs : List (PyData × PyData)) {ps : List (Key × V)}, DatK K z0 H kvs ps → piled (PyData.shownKv kvs) ≤ capK kvs
  | [], xs, h => by simp only [PyData.shownKv, capK, piled_nil]; exact Nat.le_refl _
  | (k, d) :: kvs, xs, h => by
    unfold DatK at h
    obtain ⟨kk, x, r, _, rfl, hk, h1, h2⟩ := h
    have a := dat_cap d h1
    have b := datK_cap kvs h2
    have c : (keyD kk).shown.length ≤ cap (keyD kk) := by
      cases kk with
      | inl i =>
        show (PyData.shown (.int i)).length ≤ cap (.int i)
        simp only [PyData.shown, cap]
        exact int_cap hk
      | inr z =>
        show (PyData.shown (.str z)).length ≤ cap (.str z)
        simp only [PyData.shown, cap]
        exact StrLaws.reprText_len z hk
    simp only [PyData.shownKv, capK, piled_cons, strLen_append]
    have e : (Str.ofString ": ").length = 2 := rfl
    omega
end
/-- repr(x), where nothing is being shown -/
def rRepr (K : PySem.W.Frag) : List V → Hp → VK → Prop := fun xs H Q => ∃ (x : V) (d : PyData) (z0 : Addr), xs = [x] ∧ Dat K z0 H d x ∧ cap d ≤ 16000000 ∧ d.depth ≤ 100 ∧ (d.hasDict = true → noList d = true) ∧ Q (.str d.shown) H
theorem call_repr {X : Cx} {k : Nat} (hg : X.A.guards = some []) (hr : Room k X.A) : CallR X (.builtin "repr") (rRepr X.K) := by
  intro pins s σ H xs us Q I r h
  obtain ⟨x, d, z0, rfl, hd, hc, hp, hl, q⟩ := h
  obtain ⟨u, rfl, ru⟩ := vals1 r
  have sz : d.shown.length ≤ sizeLine := Nat.le_trans (dat_cap d hd) (Nat.le_trans hc (by decide))
  obtain ⟨as, rd, ns⟩ := dat_reads I d hd ru
  have un := hr.un
  have go : ∀ a, u = .ref a → wpAny (model X.prog X.w) X.A (call (.builtin "repr") [u]) (EP X pins σ Q) X.xe s := fun a e => by
    subst e
    exact repr_of_reads' rd (dat_show d hd) (fun z => ns (hl z)) hg (by omega) (fun _ _ e => e) (fun h' t tk kp => ⟨.str d.shown, H, I.kept kp, ⟨t, rfl⟩, q⟩) sz
  cases d with
  | none =>
    unfold Dat at hd
    subst hd
    cases ru
    exact PySem.P.repr_of_none ⟨.str _, H, I.tok _, ⟨_, rfl⟩, by simpa only [PyData.shown] using q⟩
  | bool b =>
    unfold Dat at hd
    subst hd
    cases ru
    exact PySem.P.repr_of_bool ⟨.str _, H, I.tok _, ⟨_, rfl⟩, by simpa only [PyData.shown] using q⟩
  | int i =>
    unfold Dat at hd
    obtain ⟨rfl, hi⟩ := hd
    obtain ⟨t, rfl⟩ := ru
    exact PySem.P.repr_of_int hi ⟨.str _, H, I.tok _, ⟨_, rfl⟩, by simpa only [PyData.shown] using q⟩
  | str z =>
    unfold Dat at hd
    obtain ⟨rfl, hi⟩ := hd
    obtain ⟨t, rfl⟩ := ru
    simp only [PyData.shown] at sz q
    exact PySem.P.repr_of_str ⟨.str _, H, I.tok _, ⟨_, rfl⟩, q⟩ sz
  | list ds =>
    have hd' := hd
    unfold Dat at hd'
    obtain ⟨a, _, rfl, _⟩ := hd'
    exact go a ru
  | tuple ds =>
    have hd' := hd
    unfold Dat at hd'
    obtain ⟨a, _, rfl, _⟩ := hd'
    exact go a ru
  | dict ds =>
    have hd' := hd
    unfold Dat at hd'
    obtain ⟨a, _, rfl, _⟩ := hd'
    exact go a ru

mutual
/-- .. stays where all but tables, and but a list at z0, stays -/
theorem dat_ext {K : PySem.W.Frag} {H H' : Hp} {z0 : Addr} (e : ∀ b o, H b = some o → (∀ ps, o ≠ .tbl ps) → (b ≠ z0 ∨ ∀ xs, o ≠ .lst xs ∧ ∀ o', o ≠ .frz o' (.lst xs)) → H' b = some o) : ∀ (d : PyData) {x : V}, Dat K z0 H d x → Dat K z0 H' d x
  | .none, x, h => by unfold Dat at h ⊢; exact h
  | .bool b, x, h => by unfold Dat at h ⊢; exact h
  | .int i, x, h => by unfold Dat at h ⊢; exact h
  | .str z, x, h => by unfold Dat at h ⊢; exact h
  | .list ds, x, h => by
    unfold Dat at h ⊢
    obtain ⟨a, xs, h1, h2, h3, h4⟩ := h
    refine ⟨a, xs, h1, h2, ?_, datL_ext e ds h4⟩
    rcases h3 with (h3 | ⟨o, h3⟩) | h3
    · exact .inl (.inl (e _ _ h3 (fun ps z => nomatch z) (.inl h2)))
    · exact .inl (.inr ⟨o, e _ _ h3 (fun ps z => nomatch z) (.inl h2)⟩)
    · exact .inr h3
  | .tuple ds, x, h => by
    unfold Dat at h ⊢
    obtain ⟨a, xs, h1, h3, h4⟩ := h
    refine ⟨a, xs, h1, ?_, datL_ext e ds h4⟩
    rcases h3 with (h3 | ⟨o, h3⟩) | h3
    · exact .inl (.inl (e _ _ h3 (fun ps z => nomatch z) (.inr fun ys => ⟨(fun z => nomatch z), fun o' z => nomatch z⟩)))
    · exact .inl (.inr ⟨o, e _ _ h3 (fun ps z => nomatch z) (.inr fun ys => ⟨(fun z => nomatch z), fun o' z => nomatch z⟩)⟩)
    · exact .inr h3
  | .dict kvs, x, h => by
    unfold Dat at h ⊢
    obtain ⟨a, ps, h1, h3, h4⟩ := h
    exact ⟨a, ps, h1, e _ _ h3 (fun ps z => nomatch z) (.inr fun ys => ⟨(fun z => nomatch z), fun o' z => nomatch z⟩), datK_ext e kvs h4⟩
theorem datL_ext {K : PySem.W.Frag} {H H' : Hp} {z0 : Addr} (e : ∀ b o, H b = some o → (∀ ps, o ≠ .tbl ps) → (b ≠ z0 ∨ ∀ xs, o ≠ .lst xs ∧ ∀ o', o ≠ .frz o' (.lst xs)) → H' b = some o) : ∀ (ds : List PyData) {xs : List V}, DatL K z0 H ds xs → DatL K z0 H' ds xs
  | [], xs, h => by unfold DatL at h ⊢; exact h
  | d :: ds, xs, h => by
    unfold DatL at h ⊢
    obtain ⟨x, r, h1, h2, h3⟩ := h
    exact ⟨x, r, h1, dat_ext e d h2, datL_ext e ds h3⟩
theorem datK_ext {K : PySem.W.Frag} {H H' : Hp} {z0 : Addr} (e : ∀ b o, H b = some o → (∀ ps, o ≠ .tbl ps) → (b ≠ z0 ∨ ∀ xs, o ≠ .lst xs ∧ ∀ o', o ≠ .frz o' (.lst xs)) → H' b = some o) : ∀ (kvs : List (PyData × PyData)) {ps : List (Key × V)}, DatK K z0 H kvs ps → DatK K z0 H' kvs ps
  | [], xs, h => by unfold DatK at h ⊢; exact h
  | (k, d) :: kvs, xs, h => by
    unfold DatK at h ⊢
    obtain ⟨kk, x, r, h1, h2, h3, h4, h5⟩ := h
    exact ⟨kk, x, r, h1, h2, h3, dat_ext e d h4, datK_ext e kvs h5⟩
end
theorem dat_same {K : PySem.W.Frag} {H H' : Hp} {z0 : Addr} (e : Same H H') {d : PyData} {x : V} (h : Dat K z0 H d x) : Dat K z0 H' d x := dat_ext (fun b o q _ _ => e b o q) d h
theorem dat_extN {K : PySem.W.Frag} {H H' : Hp} {z0 : Addr} (e : ExtN H H') {d : PyData} {x : V} (h : Dat K z0 H d x) : Dat K z0 H' d x := dat_ext (fun b o q n _ => e b o q n) d h
theorem dat_butT {K : PySem.W.Frag} {H H' : Hp} {z0 : Addr} (e : ButT z0 H H') {ns : List V} (hz : H z0 = some (.lst ns)) {d : PyData} {x : V} (h : Dat K z0 H d x) : Dat K z0 H' d x := dat_ext (fun b o q n r => e b o (by
    rcases r with r | r
    · exact r
    · exact fun z => (r ns).1 (by rw [z, hz] at q; exact (Option.some.inj q).symm)) q n) d h
/-- a small piece of data, with how it can be shown -/
def Sml (K : PySem.W.Frag) (z0 : Addr) (H : Hp) (n m : Nat) (d : PyData) (x : V) : Prop := Dat K z0 H d x ∧ cap d ≤ m ∧ d.depth ≤ n ∧ (d.hasDict = true → noList d = true)
/-- a word of fates -/
def wdD (lo hi : Nat) : PyData → Bool
  | .str z => decide (lo ≤ z.length) && (decide (z.length ≤ hi) && z.cps.toList.all fun c => decide (c ∈ [110, 102, 115]))
  | _ => false
def lossD : PyData → Bool
  | .tuple [h, r] => wdD 0 200 h && wdD 1 200 r
  | _ => false
def datTy : PyData → String
  | .none => "NoneType"
  | .bool _ => "bool"
  | .int _ => "int"
  | .str _ => "str"
  | .list _ => "list"
  | .tuple _ => "tuple"
  | .dict _ => "dict"
theorem dat_ty {K : PySem.W.Frag} {z0 : Addr} {H : Hp} {d : PyData} {x : V} (h : Dat K z0 H d x) : TyB K H x (datTy d) := by
  cases d <;> unfold Dat at h
  · subst h; exact .non
  · subst h; exact .bl _
  · obtain ⟨rfl, _⟩ := h; exact .int _
  · obtain ⟨rfl, _⟩ := h; exact .str _
  · obtain ⟨a, xs, rfl, _, h, _⟩ := h; exact .lst h
  · obtain ⟨a, xs, rfl, h, _⟩ := h; exact .tup h
  · obtain ⟨a, xs, rfl, h, _⟩ := h; exact .dK h
theorem dat_tyx {K : PySem.W.Frag} {z0 : Addr} {H : Hp} {d : PyData} {x : V} (h : Dat K z0 H d x) : TyX K H x (.type (datTy d)) := by
  cases d <;> unfold Dat at h
  · subst h; exact .base .non
  · subst h; exact .base (.bl _)
  · obtain ⟨rfl, _⟩ := h; exact .base (.int _)
  · obtain ⟨rfl, _⟩ := h; exact .base (.str _)
  · obtain ⟨a, xs, rfl, _, (h | ⟨o, h⟩) | ⟨o, its, n, h, c, _⟩, _⟩ := h
    · exact .base (.lst h)
    · exact .base (.frz h)
    · exact .kList h c
  · obtain ⟨a, xs, rfl, (h | ⟨o, h⟩) | ⟨o, its, n, h, c, _⟩, _⟩ := h
    · exact .base (.tup h)
    · exact .fTuple h
    · exact .kTuple h c
  · obtain ⟨a, xs, rfl, h, _⟩ := h; exact .base (.dK h)
theorem r_isiD {K : PySem.W.Frag} {z0 : Addr} {H : Hp} {Q : VK} {d : PyData} {x : V} {T : String} {b : Bool} (h : Dat K z0 H d x) (hk : kitB (datTy d) T = some b) (q : Q (.bl b) H) : rIsi K [x, .ty T] H Q := r_isi (dat_tyx h) hk q
theorem ty_in (d : PyData) : datTy d ∈ ["NoneType", "bool", "int", "str", "list", "tuple", "dict"] := by cases d <;> simp [datTy]
theorem isstr (d : PyData) : kitB (datTy d) "str" = some (decide (datTy d = "str")) := (by decide +kernel : ∀ T ∈ ["NoneType", "bool", "int", "str", "list", "tuple", "dict"], kitB T "str" = some (decide (T = "str"))) _ (ty_in d)
theorem istup (d : PyData) : kitB (datTy d) "tuple" = some (decide (datTy d = "tuple")) := (by decide +kernel : ∀ T ∈ ["NoneType", "bool", "int", "str", "list", "tuple", "dict"], kitB T "tuple" = some (decide (T = "tuple"))) _ (ty_in d)
theorem isbool (d : PyData) : kitB (datTy d) "bool" = some (decide (datTy d = "bool")) := (by decide +kernel : ∀ T ∈ ["NoneType", "bool", "int", "str", "list", "tuple", "dict"], kitB T "bool" = some (decide (T = "bool"))) _ (ty_in d)
theorem isint (d : PyData) : kitB (datTy d) "int" = some (decide (datTy d = "int") || decide (datTy d = "bool")) := (by decide +kernel : ∀ T ∈ ["NoneType", "bool", "int", "str", "list", "tuple", "dict"], kitB T "int" = some (decide (T = "int") || decide (T = "bool"))) _ (ty_in d)
theorem ty_str {d : PyData} (h : datTy d = "str") : ∃ z, d = .str z := by
  cases d with
  | str z => exact ⟨z, rfl⟩
  | _ => simp [datTy] at h
theorem ty_tup {d : PyData} (h : datTy d = "tuple") : ∃ ds, d = .tuple ds := by
  cases d with
  | tuple z => exact ⟨z, rfl⟩
  | _ => simp [datTy] at h
theorem wdD_str {lo hi : Nat} {d : PyData} (h : datTy d ≠ "str") : wdD lo hi d = false := by
  cases d with
  | str z => exact absurd rfl h
  | _ => rfl
theorem wdD_S {lo hi : Nat} {l : List Nat} : wdD lo hi (.str (S l)) = (decide (lo ≤ l.length) && (decide (l.length ≤ hi) && l.all fun c => decide (c ∈ [110, 102, 115]))) := by
  show (decide (lo ≤ (S l).length) && (decide ((S l).length ≤ hi) && (S l).cps.toList.all fun c => decide (c ∈ [110, 102, 115]))) = _
  rw [S_len, S_codes]
/-! ### defs that want to know that nothing is being shown -/
abbrev Free (A : Around) : Prop := A.guards = some []
structure OkG (P : Program) (w : World) (K : PySem.W.Frag) (mg : Str → Option Value) (base : Heap) (k : Nat) (x : Str) (st : Stmt) (ps : List Str) (sp : Sp) : Prop where
  ex : ∃ f fd, mg x = some (.ref f) ∧ FnP K x st f fd ∧ Binds K fd ps [] ∧ (∀ vs H Q E, sp vs H Q E → vs.length = ps.length) ∧
    ∀ (A : Around) (outer : List Env) (s : Shared) (H : Hp) (args : Args) (us : List Value) (vs : List V) (Q : VK) (E : XK), Free A → Room k A → Env0 P w K mg base A outer s H → BindsTo s fd args (ps.zip us) → Vals vs us → sp vs H Q E →
      codeAny (model P w) A (.call (.ref f) args) (CR CX0 outer P w H s Q E) s
theorem okG_of {P : Program} {w : World} {K : PySem.W.Frag} {mg : Str → Option Value} {base : Heap} {k : Nat} {x : Str} {st : Stmt} {N ps : List Str} {sp : Sp} {fd : FuncData} (g : mg x = some (.ref (He.ga K x))) (D : FnP K x st (He.ga K x) fd) (b : Binds K fd ps []) (S : FnScope N ps (defScope st)) (len : ∀ vs H Q E, sp vs H Q E → vs.length = ps.length)
    (hbody : ∀ (cdv : Value) (A : Around) (outer : List Env) (s : Shared) (H : Hp) (vs : List V) (Q : VK) (E : XK), Free (A.deeper (envOfC x (defScope st) s.heap.objs.size (He.ga K x) cdv)) → cdv = .ref (He.cT K (x, none)).1 → Room k (A.deeper (envOfC x (defScope st) s.heap.objs.size (He.ga K x) cdv)) → sp vs H Q E →
      ∃ t, PSs (cxOf CX0 P w K mg base N x (defScope st) (He.ga K x) cdv A outer s H E) (defBody st) t ∧ t { nx := fun _ H' => Q .non H', rt := Q } (start N vs) H) : OkG P w K mg base (k + 1) x st ps sp := by
  refine ⟨_, fd, g, D, b, len, fun A outer s H args us vs Q E hf hr e0 hb r h => ?_⟩
  obtain ⟨oc, od, dV, kV, doc, pm, an, cdv, ct, osl, rfl, lk, hcd, _, _⟩ := D.ex
  obtain ⟨c, rfl⟩ := He.codeIn_ref hcd
  have ec : He.codeOf K (x, none) = c := He.codeOf_eq (p := (x, none)) lk rfl
  exact run_ofS lk hcd S hr e0 hb r (len _ _ _ _ h) fun hr' => hbody (.ref c) A outer s H vs Q E hf (by rw [← ec] <;> rfl) hr' h
section
variable {X : Cx} {k j : Nat} {x : Str} {st : Stmt} {ps : List Str} {sp : Sp} {E : XK} {e : Expr} {es : List Expr} {t : TA} {p pos : Pos}
theorem pe_clG (F : OkG X.prog X.w X.K X.mg X.base k x st ps sp) (hf : Free X.A) (hr : Room j X.A) (hg : Gl X x) (ha : PA X (e :: es) t) (hj : k ≤ j := by decide) (hdb : (x == ("__debug__" : Str)) = false := by decide) (he : starEach (e :: es) X.env = (false, eval e X.env) :: starEach es X.env := by rfl)
    (hpl : (backTo pos (starEach es X.env)).any (·.1) = false := by rfl) : PE X (.Call (.Name x p) (e :: es) [] pos) (tCall sp [] E t) := by
  obtain ⟨f, fd, gg, D, b, len, F⟩ := F.ex
  refine ⟨fun pins s σ H Q I h => ?_⟩
  refine wpAny_Call_Name_kw (ld_glob I hg gg ?_ hdb)
  refine PySem.W.callWith_K (h₀ := X.base) I.ok.mod.kin D.kp (thn (ha.run pos pins s σ H _ I h) fun us s1 ⟨vs, H1, I1, r, h1⟩ => ⟨I1.kIn, ?_⟩) he hpl
  have h1 : sp (vs ++ []) H1 Q E := h1
  rw [List.append_nil] at h1
  have hl := len _ _ _ _ h1
  have hb := b s1 us I1.kIn (by rw [List.append_nil, ← r.length]; exact hl)
  rw [List.append_nil] at hb
  refine wpAny_call (codeAny_mono (F X.A X.stack s1 H1 ⟨us, []⟩ us vs Q E hf (hr.mono hj) I1.env0 hb r h1) fun r s' hq => ?_)
  cases r with
  | error e => exact False.elim hq
  | ok fl => cases fl with
    | ret u => exact I1.after hq
    | _ => exact False.elim hq
end
/-- the end of such a law -/
theorem walk_ofG {l : PySem.W.OpenLaw} {n k : Nat} {q : Program} {loose : List Str} {XP : (Str → Option Value) → Heap → Prop} {YP : World → Heap → Prop} {d : DefRec} {x : Str} {st : Stmt} {tf : List He.Defn} {fl : List He.Fa} {fn : List He.DefD} {ex : PySem.W.Frag → Bool} {sp : PySem.W.Frag → Sp}
    (hn : l.most = some n) (hn2 : n ≤ sizeLine) (hdf : d.params.defaults = []) (hr : Room k callerA) (hY : ∀ (w : World) (h : Heap), YP w h → ∃ K : PySem.W.Frag, K.In h ∧ He.SaysX fl fn [] tf ex w h K)
    (hb : ∀ {K : PySem.W.Frag} {f : Addr} {fd : FuncData}, FnP K d.name st f fd → ∀ (s : Shared) (u : Value), BindsTo s fd ⟨[u], []⟩ [(x, u)])
    (hsp : ∀ (K : PySem.W.Frag) (H : Hp) (a : Addr) (ns : List Int), ns.length ≤ n → Tabs (tabs K tf) H → SqL K H a (ns.map V.int) → sp K [.ref a] H (fun v _ => v = .bl true) E0)
    (F : ∀ (w : World) (mg : Str → Option Value) (h : Heap) (K : PySem.W.Frag), K.In h → He.SaysX fl fn [] tf ex w h K → h.Ns mainGlobals mg → ∀ base : Heap, K.In base → base.Ns mainGlobals mg → TBs K mg base tf → OkG l.prog w K mg base k d.name st [x] (sp K)) :
    PySem.W.WalkO q loose XP YP l.row.toRowW d [] (fun f vs => PySem.call f vs) := by
  refine Att.attach_callB hn hdf fun w s₀ s₁ mg mb fa o pm cd doc a vs ns G Y ho hd hcd hmg hobj hints hlen hbits hg => ?_
  obtain ⟨K, KX, c⟩ := hY w _ Y
  have fw : ∀ {φ : Addr × Addr → Prop}, (∀ p ∈ tf, φ (He.cT K p)) → ∀ q ∈ tf.map (He.cT K), φ q := fun h q hq => by
    obtain ⟨p, hp, rfl⟩ := List.mem_map.mp hq
    exact h p hp
  refine bottomed KX G.T.g G.T.b G.T.builtins G.T.nolimit hg (fw c.empty) (fw c.out) (fw fun p hp => PySem.W.codeHd_of_K KX (c.hd p hp)) G.T.bmain hobj hints (Nat.le_trans hlen hn2) fun base H B => ?_
  have hT : TBs K mg base tf := fun p hp => B.tabs _ (List.mem_map.mpr ⟨p, hp, rfl⟩)
  obtain ⟨f, fd, gg, D, b, len, run⟩ := (F w mg _ K KX c G.T.g base B.env.mod.kin B.env.mod.glob hT).ex
  rw [hmg] at gg
  cases gg
  have tb : Tabs (tabs K tf) H := fun r hr => by
    obtain ⟨p, hp, rfl⟩ := List.mem_map.mp hr
    exact TabS.nil (B.emp _ (List.mem_map.mpr ⟨p, hp, rfl⟩))
  exact run callerA [] s₁ H ⟨[.ref a], []⟩ [.ref a] [.ref a] _ _ rfl hr B.env (hb D s₁ (.ref a)) (.cons rfl .nil) (hsp K H a ns hlen tb B.scr)

/-! ### d.update(other), xs == [] -/
def rUpd : V → List V → Hp → VK → Prop := fun x xs H Q => ∃ (d o : Addr) (kvs more : List (Key × V)), x = .ref d ∧ xs = [.ref o] ∧ H d = some (.dK kvs) ∧ H o = some (.dK more) ∧ d ≠ o ∧ kvs.length + more.length ≤ 1000 ∧ (mergeK kvs more).length ≤ 1000 ∧ Q .non (upd H d (.dK (mergeK kvs more)))
theorem mt_update {X : Cx} : MtR X "dict.update" rUpd := by
  intro pins s σ H x xs v us Q I rx rs h
  obtain ⟨d, o, kvs, more, rfl, rfl, e, e2, ne, hl, hl2, q⟩ := h
  obtain rfl : v = Value.ref d := rx
  obtain ⟨u, rfl, ru⟩ := vals1 rs
  obtain rfl : u = Value.ref o := ru
  obtain ⟨z, hd, vs, rel, dd⟩ := dk_of I.hok e
  obtain ⟨z2, hd2, vs2, rel2, dd2⟩ := dk_of I.hok e2
  have sz : vs.length + vs2.length ≤ sizeLine := by
    rw [← rel.length, ← rel2.length, sizeLine_eq]
    omega
  refine call_meetsIn PySem.F.slot_dict_update dd.typeIs PySem.F.entry_dict_update (PySem.F.args_dict_update_2 _ _) (meets_dict_update (mixKind X.prog X.w) d o ne hd2) ⟨vs, vs2, dd, dd2, sz, fun h' dd' _ hs => ?_⟩
  have he : ∃ q, h'.get? d = some q := let ⟨q, _, _, hq, _⟩ := dd'; ⟨q, hq⟩
  exact ⟨.non, _, d_write (t' := s.toks) I (by rw [e]; exact True.intro) hs he (dk_new (Nat.le_trans hl2 (by rw [sizeLine_eq]; omega)) hd (KV.merge rel2 rel) dd'), rfl, q⟩

/-! ### data, piece by piece -/
section
variable {K : PySem.W.Frag} {z0 : Addr} {H : Hp}
theorem dat_non : Dat K z0 H .none .non := by unfold Dat; rfl
theorem dat_bl {b : Bool} : Dat K z0 H (.bool b) (.bl b) := by unfold Dat; rfl
theorem dat_int {i : Int} (h : i.natAbs.log2 < 1920) : Dat K z0 H (.int i) (.int i) := by unfold Dat; exact ⟨rfl, h⟩
theorem dat_S {l : List Nat} (h : ∀ c ∈ l, c < 16 ^ 8) : Dat K z0 H (.str (S l)) (.str (S l)) := by
  unfold Dat okPts
  rw [S_codes]
  exact ⟨rfl, h⟩
theorem datL_nil : DatL K z0 H [] [] := by unfold DatL; rfl
theorem datL_cons {d : PyData} {ds : List PyData} {x : V} {xs : List V} (h : Dat K z0 H d x) (r : DatL K z0 H ds xs) : DatL K z0 H (d :: ds) (x :: xs) := by
  rw [DatL]
  exact ⟨x, xs, rfl, h, r⟩
theorem dat_tup {a : Addr} {xs : List V} {ds : List PyData} (h : SqT K H a xs) (r : DatL K z0 H ds xs) : Dat K z0 H (.tuple ds) (.ref a) := by
  rw [Dat]
  exact ⟨a, xs, rfl, h, r⟩
theorem dat_lst {a : Addr} {xs : List V} {ds : List PyData} (n : a ≠ z0) (h : SqL K H a xs) (r : DatL K z0 H ds xs) : Dat K z0 H (.list ds) (.ref a) := by
  rw [Dat]
  exact ⟨a, xs, rfl, n, h, r⟩
theorem datK_nil : DatK K z0 H [] [] := by unfold DatK; rfl
theorem datK_cons {l : List Nat} {d : PyData} {r : List (PyData × PyData)} {x : V} {q : List (Key × V)} (hk : ∀ c ∈ l, c < 16 ^ 8) (h : Dat K z0 H d x) (t : DatK K z0 H r q) : DatK K z0 H ((.str (S l), d) :: r) ((.inr (S l), x) :: q) := by
  rw [DatK]
  exact ⟨.inr (S l), x, q, rfl, rfl, (by show okPts (S l); unfold okPts; rw [S_codes]; exact hk), h, t⟩
theorem dat_dic {a : Addr} {ps : List (Key × V)} {kvs : List (PyData × PyData)} (h : H a = some (.dK ps)) (r : DatK K z0 H kvs ps) : Dat K z0 H (.dict kvs) (.ref a) := by
  rw [Dat]
  exact ⟨a, ps, rfl, h, r⟩
end

/-! ### s.upper() -/
def rUpS : V → List V → Hp → VK → Prop := fun x xs H Q => ∃ l : List Nat, x = .str (S l) ∧ xs = [] ∧ l.length ≤ 1000000 ∧ l.all (· < 128) = true ∧ Q (.str (S (l.map PyProof.Rows.up1))) H
theorem mt_upS {X : Cx} : MtR X "str.upper" rUpS := by
  intro pins s σ H x xs v us Q I rx rs h
  obtain ⟨l, rfl, rfl, hl, ha, q⟩ := h
  obtain ⟨t, rfl⟩ := rx
  cases rs
  refine PySem.SC.upper (PyProof.Rows.short24 (by have := PyProof.Rows.len_upper (S l); rw [S_len] at this; omega)) ⟨.str _, H, I.tok _, ⟨_, rfl⟩, ?_⟩
  have e : Txt.upper (S l) = S (l.map PyProof.Rows.up1) := SX.upper_S ha
  rw [e]
  exact q
theorem r_upS {H : Hp} {Q : VK} {l : List Nat} (hl : l.length ≤ 1000000) (ha : l.all (· < 128) = true) (q : Q (.str (S (l.map PyProof.Rows.up1))) H) : rUpS (.str (S l)) [] H Q := ⟨l, rfl, rfl, hl, ha, q⟩

/-! ### all([test of a letter for letter in s]) -/
theorem lcS_test {l : List Nat} (f : Nat → Bool) {g : TG} {te : TE} {vs : List Nat} {σ : L2.St} {H1 : Hp} {D : Addr} {Qd : Hp → Prop} (hD : H1 D = none) (hl : l.length ≤ 1000000)
    (hs : ∀ (i c : Nat) (H : Hp), l[i]? = some c → Same H1 H → ∀ R : V → Hp → Prop, (∀ H4, Same H H4 → R (.bl (f c)) H4) → g (.str (S [c])) (wipe σ vs) H fun σ2 H2 => wipe σ2 vs = wipe σ vs ∧ te σ2 H2 R)
    (hd : ∀ H, Same H1 H → H D = some (.lst ((l.map f).map V.bl)) → Qd H) :
    ∃ W : Nat → Nat → Hp → Prop, (∃ m, W 0 m (upd H1 D (.lst []))) ∧ ∀ i m H, W i m H →
      ((Its (S l)).stop i H ∧ Qd H) ∨ ((Its (S l)).go i H ∧ ∃ Nx : Hp → Prop, (∀ H', Nx H' → ∃ m', m' < m ∧ W (i + 1) m' H') ∧ ∀ x H', (Its (S l)).yld i H x H' → g x (wipe σ vs) H' fun σ2 H2 => wipe σ2 vs = wipe σ vs ∧ tYes σ2 H2 fun b H3 =>
        if b = true then te σ2 H3 fun y H4 => ∃ acc, H4 D = some (.lst acc) ∧ acc.length < sizeLine ∧ Nx (upd H4 D (.lst (acc ++ [y]))) else Nx H3) := by
  refine lc_acc (n := l.length) (fun i H' => Same H1 H') (fun i v => ∃ c, l[i]? = some c ∧ v = .bl (f c)) hl (same_new hD) (fun i H' acc acc' e _ => Same.mut e hD) (fun i H' hi e => ?_) (fun H' e => ?_) ?_ ?_
  · show i < (S l).length
    rw [S_len]
    exact hi
  · show (S l).length ≤ l.length
    rw [S_len]
    exact Nat.le_refl _
  · rintro i x H' H2 acc hi e hacc y R hR
    obtain ⟨c, hc⟩ : ∃ c, l[i]? = some c := ⟨l[i], List.getElem?_eq_getElem hi⟩
    obtain ⟨rfl, c', e1, rfl⟩ := y
    have e1 : l[i]? = some c' := by simpa [S] using e1
    rw [hc] at e1
    cases e1
    exact hs i c _ hc e R fun H4 e4 => hR _ _ (e4 _ _ hacc) ⟨c, hc, rfl⟩ (e.trans e4)
  · intro H' acc hl2 hv hacc e
    refine hd _ e ?_
    rw [hacc]
    congr 2
    refine List.ext_getElem? fun i => ?_
    by_cases hi : i < acc.length
    · obtain ⟨c, e1, e2⟩ := hv i _ (List.getElem?_eq_getElem hi)
      rw [List.getElem?_eq_getElem hi, e2, List.getElem?_map, List.getElem?_map, e1]
      rfl
    · rw [List.getElem?_eq_none (by omega), List.getElem?_eq_none (by simp; omega)]
theorem r_allB {K : PySem.W.Frag} {H : Hp} {Q : VK} {D : Addr} {bs : List Bool} (h : H D = some (.lst (bs.map V.bl))) (q : Q (.bl (bs.all id)) H) : rAll K [.ref D] H Q := ⟨D, bs, rfl, SqL.of h, q⟩

/-! ### xs == [] -/
def rEqE (K : PySem.W.Frag) : R2 := fun x y H Q => ∃ (a b : Addr) (xs : List V), x = .ref a ∧ y = .ref b ∧ SqL K H a xs ∧ SqL K H b [] ∧ Q (.bl xs.isEmpty) H
theorem op_eqE {X : Cx} (hu : X.A.units + 64 < cLine) : OpR X (compareOp .Eq) (rEqE X.K) := by
  intro pins s σ H x y v u Q I rx ry h
  obtain ⟨a, b, xs, rfl, rfl, h1, h2, q⟩ := h
  cases xs with
  | nil => exact op_eqD hu pins s σ H _ _ v u Q I rx ry ⟨_, _, .lst h1 .nil, .lst h2 .nil, by decide, by decide, q⟩
  | cons z zs =>
    obtain rfl : v = Value.ref a := rx
    obtain rfl : u = Value.ref b := ry
    obtain ⟨its, r1, p1, _⟩ := I.list h1
    obtain ⟨its2, r2, p2, _⟩ := I.list h2
    have l1 := r1.length
    have l2 := r2.length
    refine SeqAt.eq_list_lengthsAt p1.isList p2.isList ?_ (by omega) ?_
    · simp only [List.size_toArray, ← l1, ← l2, List.length_cons, List.length_nil]
      simp
    · exact ⟨.bl false, H, I, rfl, q⟩

theorem datL_len {K : PySem.W.Frag} {z0 : Addr} {H : Hp} : ∀ {ds : List PyData} {xs : List V}, DatL K z0 H ds xs → ds.length = xs.length
  | [], xs, h => by unfold DatL at h; rw [h]; rfl
  | d :: ds, xs, h => by
    unfold DatL at h
    obtain ⟨x, r, rfl, _, h2⟩ := h
    rw [List.length_cons, List.length_cons, datL_len h2]
theorem datL_two {K : PySem.W.Frag} {z0 : Addr} {H : Hp} {d1 d2 : PyData} {xs : List V} (h : DatL K z0 H [d1, d2] xs) : ∃ x1 x2, xs = [x1, x2] ∧ Dat K z0 H d1 x1 ∧ Dat K z0 H d2 x2 := by
  rw [DatL] at h
  obtain ⟨x1, r, rfl, h1, h⟩ := h
  rw [DatL] at h
  obtain ⟨x2, r, rfl, h2, h⟩ := h
  rw [DatL] at h
  subst h
  exact ⟨x1, x2, rfl, h1, h2⟩
theorem wdD_low {d : PyData} (h : wdD 0 200 d = false) : wdD 1 200 d = false := by
  cases d with
  | str z =>
    have h : (decide (0 ≤ z.length) && (decide (z.length ≤ 200) && z.cps.toList.all fun c => decide (c ∈ [110, 102, 115]))) = false := h
    simp only [Nat.zero_le, decide_true, Bool.true_and] at h
    show (decide (1 ≤ z.length) && (decide (z.length ≤ 200) && z.cps.toList.all fun c => decide (c ∈ [110, 102, 115]))) = false
    rw [h, Bool.and_false]
  | _ => rfl
theorem wdD_val {K : PySem.W.Frag} {z0 : Addr} {H : Hp} {lo hi : Nat} {d : PyData} {x : V} (h : wdD lo hi d = true) (hd : Dat K z0 H d x) : ∃ l, d = .str (S l) ∧ x = .str (S l) := by
  cases d with
  | str z =>
    unfold Dat at hd
    exact ⟨_, congrArg PyData.str (S_of z), by rw [hd.1, ← S_of z]⟩
  | _ => unfold wdD at h; cases h
theorem wdD_one {l : List Nat} (h : wdD 0 200 (.str (S l)) = true) : wdD 1 200 (.str (S l)) = !decide (V.str (S l) = V.str (S [])) := by
  rw [wdD_S] at h ⊢
  simp only [Nat.zero_le, decide_true, Bool.true_and] at h
  rw [h, Bool.and_true]
  by_cases e : l = []
  · subst e
    simp
  · have h1 : 1 ≤ l.length := Nat.pos_of_ne_zero fun z => e (List.eq_nil_of_length_eq_zero z)
    rw [decide_eq_true h1, decide_eq_false (fun z => e (S_iff.mp z))]
    rfl
/-- what a word tells -/
theorem wdD_true {lo hi : Nat} {l : List Nat} (h : wdD lo hi (.str (S l)) = true) : Wd l ∧ lo ≤ l.length ∧ l.length ≤ hi := by
  rw [wdD_S] at h
  simp only [Bool.and_eq_true, decide_eq_true_eq, List.all_eq_true] at h
  refine ⟨fun c hc => ?_, h.1, h.2.1⟩
  have := h.2.2 c hc
  simpa using this
end Tf
/-! ### t[::-1] -/
namespace HT
open PySem PySem.Spec PyProof.Rows
section
variable {prog : Program} {w : World} {A : Around} {E : Value → Shared → Prop} {s : Shared}
theorem adjust_rev (n : Nat) : Builtin.Slice.sliceAdjust none none (-1) (n : Int) = ((n : Int) - 1, -1) := by
  unfold Builtin.Slice.sliceAdjust
  simp
theorem places_rev (n : Nat) : Builtin.Slice.slicePlaces ((n : Int) - 1) (-1) (-1) = n := by
  unfold Builtin.Slice.slicePlaces
  simp
  omega
theorem pick_rev (xs : Array Value) : ((List.range xs.size).filterMap fun (m : Nat) => xs[(((xs.size : Int) - 1) + (m : Int) * (-1)).toNat]?).toArray = xs.toList.reverse.toArray := by
  have e : (fun (m : Nat) => xs[(((xs.size : Int) - 1) + (m : Int) * (-1)).toNat]?) = (xs[·]?) ∘ fun m => xs.size - 1 - m := by
    funext m
    show _ = xs[xs.size - 1 - m]?
    have : (((xs.size : Int) - 1) + (m : Int) * (-1)).toNat = xs.size - 1 - m := by omega
    rw [this]
  rw [e, ← List.filterMap_map, PySem.W.krv_range, List.filterMap_reverse, PySem.W.krv_all]
theorem sliceApplied_rev {sl : Addr} {vl vu vs : Value} {n : Nat} {Q : Int × Int × Nat → Shared → Prop} (hs : s.heap.IsSliceOf sl vl vu vs) (pl : IsPart vl none) (pu : IsPart vu none) (ps : IsPart vs (some (-1)))
    (h : Q ((n : Int) - 1, -1, n) s) : wpAny (model prog w) A (Builtin.Slice.sliceApplied (.ref sl) (pure (n : Int))) Q E s := by
  obtain ⟨os, hos, hcs, hds⟩ := id hs
  unfold Builtin.Slice.sliceApplied Builtin.Slice.sliceFields
  refine wpAny_bind (wpAny_bind (wpAny_field hos hds (x := vl) rfl (wpAny_bind (wpAny_field hos hds (x := vu) rfl (wpAny_bind (wpAny_field hos hds (x := vs) rfl (wpAny_pure ?_)))))))
  refine wpAny_bind (slicePart_ ps ?_)
  show wpAny _ _ (if ((-1 : Int) == 0) = true then _ else _) _ _ s
  rw [if_neg (by decide)]
  refine wpAny_bind (slicePart_ pl (wpAny_bind (slicePart_ pu (wpAny_bind (wpAny_pure ?_)))))
  show wpAny _ _ (match Builtin.Slice.sliceAdjust none none (-1) (n : Int) with | (lo, hi) => pure (lo, (-1 : Int), Builtin.Slice.slicePlaces lo hi (-1))) _ _ s
  rw [adjust_rev n]
  show wpAny _ _ (pure ((n : Int) - 1, (-1 : Int), Builtin.Slice.slicePlaces ((n : Int) - 1) (-1) (-1))) _ _ s
  rw [places_rev]
  exact wpAny_pure h
theorem getItem_tuple_rev {t sl : Addr} {items : Array Value} {vl vu vs : Value} {Q : Value → Shared → Prop} (ht : IsTup s.heap t items) (hs : s.heap.IsSliceOf sl vl vu vs) (pl : IsPart vl none) (pu : IsPart vu none) (ps : IsPart vs (some (-1)))
    (h : Q (.ref s.heap.objs.size) { s with heap := s.heap.push { cls := .type "tuple", data := .seq items.toList.reverse.toArray } })
    (hsz : items.size ≤ sizeLine) : wpAny (model prog w) A (getItem (.ref t) (.ref sl)) Q E s := by
  have htake : sizeOk (.seq items.toList.reverse.toArray) := by
    show items.toList.reverse.toArray.size ≤ sizeLine
    rw [List.size_toArray, List.length_reverse, Array.length_toList]
    omega
  obtain ⟨os, hos, hcs, hds⟩ := id hs
  have hTs : s.TypeIs (.ref sl) "slice" := ⟨os, hos, hcs⟩
  unfold getItem
  try with_reducible refine wpAny_holding ?_
  first | refine wpAny_bind (wpAny_pure ?_) | skip
  refine wpAny_bind (wpAny_sequenceKey ht.typeIs (by decide) ?_)
  refine wpAny_bind (wpAny_callSpecial?_slot (name := Str.ofString "__getitem__") ht.typeIs PyProof.Rows.slot_tuple_getitem
    (wpAny_call_entry PyProof.Rows.slot_tuple_getitem ht.typeIs entry_tuple_getitem ?_ (args_tuple_getitem _ _)))
  show wpAny _ _ (Builtin.Tuple.tupleItemsOf (.ref t) >>= _) _ _ s
  refine wpAny_bind (tupleItemsOf_ ht ?_)
  refine wpAny_bind (wpAny_typeOf hTs ?_)
  rw [if_pos (by decide)]
  refine wpAny_bind (sliceApplied_rev hs pl pu ps ?_)
  show wpAny _ _ (if (((items.size : Int) - 1) == 0 && (-1 : Int) == 1 && items.size == items.size) = true then _ else _) _ _ s
  rw [if_neg (by simp), pick_rev]
  first
    | exact wpAny_bind (m := Builtin.Tuple.tupleExact _) (wpAny_newObj_type (wpAny_pure ⟨_, rfl, wpAny_pure h⟩) htake)
    | exact wpAny_bind (m := Builtin.Tuple.tupleExact _) (wpAny_newObj_type (wpAny_bind (wpAny_pure (wpAny_pure ⟨_, rfl, wpAny_pure h⟩))) htake)
    | exact wpAny_bind (wpAny_bind (m := Builtin.Tuple.tupleExact _) (wpAny_newObj_type (wpAny_pure (wpAny_pure ⟨_, rfl, wpAny_pure h⟩)) htake))
    | exact wpAny_bind (wpAny_bind (m := Builtin.Tuple.tupleExact _) (wpAny_newObj_type (wpAny_pure ⟨_, rfl, wpAny_pure h⟩) htake))
end
end HT
namespace Tf
open PySem PySem.Spec PyProof.Rows L2 LamX
def tRevT (K : PySem.W.Frag) (te : TE) : TE := fun σ H Q => te σ H fun x H1 => ∃ a xs, x = .ref a ∧ SqT K H1 a xs ∧ ∀ p, H1 p = none → Q (.ref p) (upd H1 p (.tup xs.reverse))
theorem pe_revT {X : Cx} {e : Expr} {te : TE} {k : Nat} {p1 p2 p3 pos : Pos} (he : PE X e te) : PE X (.Subscript e (.Slice none none (some (.UnaryOp .USub (.Constant (.int 1) k p1) p2)) p3) pos) (tRevT X.K te) := by
  refine ⟨fun pins s σ H Q I h => ?_⟩
  refine Subscript_ (thn (he.run pins s σ H _ I h) fun v s1 ⟨x, H1, I1, r1, q1⟩ => ?_)
  obtain ⟨a, xs, ex, hx, q⟩ := q1
  subst ex
  cases r1
  have hst : PO X (some (.UnaryOp .USub (.Constant (.int 1) k p1) p2)) (tPart (tUn (rU fun i => .int (-i)) (tC (.int 1)))) := po_some (pe_un un_neg pe_int)
  refine wpAny_Slice (thn (po_none.run pins s1 σ H1 (fun o H2 => o = none ∧ H2 = H1) I1 ⟨rfl, rfl⟩) fun vl s2 ⟨l, H2, I2, pl, el, e2⟩ => ?_)
  subst el e2
  refine thn (po_none.run pins s2 σ H2 (fun o H3 => o = none ∧ H3 = H2) I2 ⟨rfl, rfl⟩) fun vu s3 ⟨u, H3, I3, pu, eu, e3⟩ => ?_
  subst eu e3
  refine thn (hst.run pins s3 σ H3 (fun o H4 => o = some (-1) ∧ H4 = H3) I3 ⟨1, rfl, -1, rfl, rfl, rfl⟩) fun vs s4 ⟨o, H4, I4, ps, eo, e4⟩ => ?_
  subst eo e4
  have I5 : Inv X pins σ H4 { s4 with heap := s4.heap.push { cls := .type "slice", data := .fields #[vl, vu, vs] } } := I4.kept (t' := s4.toks) fun b ob q => Heap.get?_push_of_some _ q
  obtain ⟨its, r, ht, hz⟩ := I5.tuple hx
  have hlen := r.length
  show wpAny (model X.prog X.w) X.A (subscriptTail e (.Slice none none (some (.UnaryOp .USub (.Constant (.int 1) k p1) p2)) p3) (.ref a) (.ref s4.heap.objs.size)) (EP X pins σ Q) X.xe { s4 with heap := s4.heap.push { cls := .type "slice", data := .fields #[vl, vu, vs] } }
  refine tail_any (ops := [.ref a, .ref s4.heap.objs.size]) ht.typeIs (PyProof.Rows.slot_tuple_getitem.lookup) ?_ (by with_unfolding_all rfl)
  refine HT.getItem_tuple_rev ht (Heap.IsSliceOf.new _ vl vu vs) pl pu ps ?_ (by rw [List.size_toArray]; omega)
  refine ⟨.ref _, _, I5.laid (t' := s4.toks) (o := .tup xs.reverse) (fun b ob q => Heap.get?_push_of_some _ q) (Nat.le_refl _) ?_, rfl, q _ (I5.hok.fresh (Nat.le_refl _))⟩
  exact ⟨by rw [List.length_reverse]; exact hz, _, r.reverse, IsTup.new _ _⟩
end Tf

set_option Elab.async false
set_option linter.all false
set_option maxRecDepth 100000
set_option maxHeartbeats 2000000
/-! data that are bent: texts and tuples of such -/
namespace Tf
open PySem PySem.Spec PyProof.Rows L2
mutual
/-- texts of plain signs, short, and tuples of such -/
def bt : PyData → Bool
  | .str z => decide (z.length ≤ 400) && z.cps.toList.all fun c => decide (c < 128) && !decide (c = 10)
  | .tuple ds => btL ds
  | .none => true
  | .bool _ => true
  | .int i => decide (i.natAbs < 2 ^ 1000)
  | _ => false
def btL : List PyData → Bool
  | [] => true
  | d :: ds => bt d && btL ds
end
mutual
theorem bt_plain : ∀ (d : PyData), bt d = true → d.hasDict = false ∧ noList d = true ∧ d.canLay0 = true
  | .str z, h => by
    unfold bt at h
    rw [Bool.and_eq_true, List.all_eq_true] at h
    refine ⟨rfl, rfl, ?_⟩
    show PyData.strOk z = true
    unfold PyData.strOk
    rw [← Array.all_toList]
    refine List.all_eq_true.mpr fun c hc => decide_eq_true ?_
    have := h.2 c hc
    rw [Bool.and_eq_true, decide_eq_true_eq] at this
    omega
  | .tuple ds, h => by
    unfold bt at h
    obtain ⟨h1, h2, h3⟩ := btL_plain ds h
    refine ⟨?_, ?_, ?_⟩
    · simpa only [PyData.hasDict] using h1
    · simpa only [noList] using h2
    · simpa only [PyData.canLay0] using h3
  | .none, h => ⟨rfl, rfl, by simp only [PyData.canLay0]⟩
  | .bool _, h => ⟨rfl, rfl, by simp only [PyData.canLay0]⟩
  | .int _, h => ⟨rfl, rfl, by simp only [PyData.canLay0]⟩
  | .list _, h => by unfold bt at h; cases h
  | .dict _, h => by unfold bt at h; cases h
theorem btL_plain : ∀ (ds : List PyData), btL ds = true → PyData.hasDictAll ds = false ∧ noListL ds = true ∧ PyData.canLayAll0 ds = true
  | [], _ => ⟨rfl, rfl, rfl⟩
  | d :: ds, h => by
    unfold btL at h
    rw [Bool.and_eq_true] at h
    obtain ⟨h1, h2, h3⟩ := bt_plain d h.1
    obtain ⟨g1, g2, g3⟩ := btL_plain ds h.2
    refine ⟨?_, ?_, ?_⟩
    · simp only [PyData.hasDictAll, h1, g1, Bool.or_self]
    · simp only [noListL, h2, g2, Bool.and_self]
    · simp only [PyData.canLayAll0, h3, g3, Bool.and_self]
end
theorem bt_shaped {d : PyData} (h : bt d = true) (hd : d.depth ≤ 60) : SeqAt.shaped d = true := by
  unfold SeqAt.shaped
  rw [(bt_plain d h).2.2, decide_eq_true (by omega)]
  rfl
mutual
theorem dp_of {K : PySem.W.Frag} {z0 : Addr} {H : Hp} : ∀ (d : PyData) {x : V}, bt d = true → Dat K z0 H d x → Dp K H x d
  | .str z, x, _, h => by unfold Dat at h; rw [h.1]; exact .str _
  | .tuple ds, x, b, h => by
    unfold Dat at h
    unfold bt at b
    obtain ⟨a, xs, rfl, h1, h2⟩ := h
    exact .tup h1 (dpL_of ds b h2)
  | .none, x, _, h => by unfold Dat at h; subst h; exact .non
  | .bool _, x, _, h => by unfold Dat at h; subst h; exact .bl _
  | .int _, x, _, h => by unfold Dat at h; rw [h.1]; exact .int _
  | .list _, _, h, _ => by unfold bt at h; cases h
  | .dict _, _, h, _ => by unfold bt at h; cases h
theorem dpL_of {K : PySem.W.Frag} {z0 : Addr} {H : Hp} : ∀ (ds : List PyData) {xs : List V}, btL ds = true → DatL K z0 H ds xs → DpAll K H xs ds
  | [], xs, _, h => by unfold DatL at h; subst h; exact .nil
  | d :: ds, xs, b, h => by
    unfold DatL at h
    unfold btL at b
    rw [Bool.and_eq_true] at b
    obtain ⟨x, r, rfl, h1, h2⟩ := h
    exact .cons (dp_of d b.1 h1) (dpL_of ds b.2 h2)
end
theorem dat_but {K : PySem.W.Frag} {H H' : Hp} {a : Addr} {c : Int} (e : But a H H') (P : PotAt H a c) {d : PyData} {x : V} (h : Dat K a H d x) : Dat K a H' d x := by
  obtain ⟨own, sd, n, hA, _⟩ := P
  refine dat_ext (fun b o q _ r => ?_) d h
  rcases r with r | r
  · exact e b o r q
  · by_cases z : b = a
    · subst z
      rw [hA] at q
      exact absurd (Option.some.inj q).symm (r _).1
    · exact e b o z q
theorem datL_but {K : PySem.W.Frag} {H H' : Hp} {a : Addr} {c : Int} (e : But a H H') (P : PotAt H a c) {ds : List PyData} {xs : List V} (h : DatL K a H ds xs) : DatL K a H' ds xs := by
  obtain ⟨own, sd, n, hA, _⟩ := P
  refine datL_ext (fun b o q _ r => ?_) ds h
  rcases r with r | r
  · exact e b o r q
  · by_cases z : b = a
    · subst z
      rw [hA] at q
      exact absurd (Option.some.inj q).symm (r _).1
    · exact e b o z q
theorem datL_same {K : PySem.W.Frag} {H H' : Hp} {a : Addr} (e : Same H H') {ds : List PyData} {xs : List V} (h : DatL K a H ds xs) : DatL K a H' ds xs := datL_ext (fun b o q _ _ => e b o q) ds h
theorem dat_tupI {K : PySem.W.Frag} {z0 : Addr} {H : Hp} {ds : List PyData} {x : V} (h : Dat K z0 H (.tuple ds) x) : ∃ t xs, x = .ref t ∧ SqT K H t xs ∧ DatL K z0 H ds xs := by
  unfold Dat at h
  exact h
/-! ### lists of data -/
section
variable {K : PySem.W.Frag} {a : Addr} {H : Hp}
theorem datL_app : ∀ {ds es : List PyData} {xs ys : List V}, DatL K a H ds xs → DatL K a H es ys → DatL K a H (ds ++ es) (xs ++ ys)
  | [], es, xs, ys, h, g => by unfold DatL at h; subst h; exact g
  | d :: ds, es, xs, ys, h, g => by
    unfold DatL at h
    obtain ⟨x, r, rfl, h1, h2⟩ := h
    exact datL_cons h1 (datL_app h2 g)
theorem datL_take : ∀ (n : Nat) {ds : List PyData} {xs : List V}, DatL K a H ds xs → DatL K a H (ds.take n) (xs.take n)
  | 0, _, _, _ => by simpa using datL_nil
  | n + 1, [], xs, h => by unfold DatL at h; subst h; simpa using datL_nil
  | n + 1, d :: ds, xs, h => by
    unfold DatL at h
    obtain ⟨x, r, rfl, h1, h2⟩ := h
    exact datL_cons h1 (datL_take n h2)
theorem datL_drop : ∀ (n : Nat) {ds : List PyData} {xs : List V}, DatL K a H ds xs → DatL K a H (ds.drop n) (xs.drop n)
  | 0, _, _, h => by simpa using h
  | n + 1, [], xs, h => by unfold DatL at h; subst h; simpa using datL_nil
  | n + 1, d :: ds, xs, h => by
    unfold DatL at h
    obtain ⟨x, r, rfl, h1, h2⟩ := h
    exact datL_drop n h2
theorem datL_rev : ∀ {ds : List PyData} {xs : List V}, DatL K a H ds xs → DatL K a H ds.reverse xs.reverse
  | [], xs, h => by unfold DatL at h; subst h; simpa using datL_nil
  | d :: ds, xs, h => by
    unfold DatL at h
    obtain ⟨x, r, rfl, h1, h2⟩ := h
    rw [List.reverse_cons, List.reverse_cons]
    exact datL_app (datL_rev h2) (datL_cons h1 datL_nil)
theorem datL_at : ∀ {ds : List PyData} {xs : List V} {i : Nat}, DatL K a H ds xs → i < xs.length → ∃ d x, ds[i]? = some d ∧ xs[i]? = some x ∧ Dat K a H d x
  | [], xs, i, h, hi => by unfold DatL at h; subst h; simp at hi
  | d :: ds, xs, 0, h, hi => by
    unfold DatL at h
    obtain ⟨x, r, rfl, h1, h2⟩ := h
    exact ⟨d, x, rfl, rfl, h1⟩
  | d :: ds, xs, i + 1, h, hi => by
    unfold DatL at h
    obtain ⟨x, r, rfl, h1, h2⟩ := h
    obtain ⟨d', x', e1, e2, e3⟩ := datL_at (i := i) h2 (by simpa using hi)
    exact ⟨d', x', e1, e2, e3⟩
end
theorem btL_mem : ∀ {ds : List PyData} {d : PyData}, btL ds = true → d ∈ ds → bt d = true
  | e :: ds, d, h, hm => by
    unfold btL at h
    rw [Bool.and_eq_true] at h
    rcases List.mem_cons.mp hm with rfl | hm
    · exact h.1
    · exact btL_mem h.2 hm
theorem capL_app : ∀ (ds es : List PyData), capL (ds ++ es) = capL ds + capL es
  | [], es => by simp [capL]
  | d :: ds, es => by simp only [List.cons_append, capL, capL_app ds es]; omega
theorem capL_rev : ∀ (ds : List PyData), capL ds.reverse = capL ds
  | [] => rfl
  | d :: ds => by rw [List.reverse_cons, capL_app, capL_rev ds]; simp only [capL]; omega
theorem capL_part (n : Nat) (ds : List PyData) : capL (ds.take n) + capL (ds.drop n) = capL ds := by
  rw [← capL_app, List.take_append_drop]
theorem capL_at {ds : List PyData} {i : Nat} {d : PyData} (h : ds[i]? = some d) : capL (ds.take i) + (cap d + 2) + capL (ds.drop (i + 1)) = capL ds := by
  have hi := (List.getElem?_eq_some_iff.mp h).1
  have e := capL_part i ds
  rw [List.drop_eq_getElem_cons hi] at e
  have : ds[i] = d := (List.getElem?_eq_some_iff.mp h).2
  rw [this] at e
  simp only [capL] at e
  omega
theorem depthL_app : ∀ (ds es : List PyData), PyData.depthAll (ds ++ es) = max (PyData.depthAll ds) (PyData.depthAll es)
  | [], es => by simp [PyData.depthAll]
  | d :: ds, es => by simp only [List.cons_append, PyData.depthAll, depthL_app ds es]; omega
theorem depthL_rev : ∀ (ds : List PyData), PyData.depthAll ds.reverse = PyData.depthAll ds
  | [] => rfl
  | d :: ds => by rw [List.reverse_cons, depthL_app, depthL_rev ds]; simp only [PyData.depthAll]; omega
theorem depthL_take (n : Nat) (ds : List PyData) : PyData.depthAll (ds.take n) ≤ PyData.depthAll ds := by
  have := depthL_app (ds.take n) (ds.drop n)
  rw [List.take_append_drop] at this
  omega
theorem depthL_drop (n : Nat) (ds : List PyData) : PyData.depthAll (ds.drop n) ≤ PyData.depthAll ds := by
  have := depthL_app (ds.take n) (ds.drop n)
  rw [List.take_append_drop] at this
  omega
theorem depthL_mem {ds : List PyData} {d : PyData} (h : d ∈ ds) : d.depth ≤ PyData.depthAll ds := PyData.depth_le_depthAll ds d h
theorem hasDictL_app : ∀ (ds es : List PyData), PyData.hasDictAll (ds ++ es) = (PyData.hasDictAll ds || PyData.hasDictAll es)
  | [], es => by simp [PyData.hasDictAll]
  | d :: ds, es => by simp only [List.cons_append, PyData.hasDictAll, hasDictL_app ds es, Bool.or_assoc]
theorem noListL_app : ∀ (ds es : List PyData), noListL (ds ++ es) = (noListL ds && noListL es)
  | [], es => by simp [noListL]
  | d :: ds, es => by simp only [List.cons_append, noListL, noListL_app ds es, Bool.and_assoc]
theorem btL_app : ∀ (ds es : List PyData), btL (ds ++ es) = (btL ds && btL es)
  | [], es => by simp [btL]
  | d :: ds, es => by simp only [List.cons_append, btL, btL_app ds es, Bool.and_assoc]
theorem btL_part {ds : List PyData} (h : btL ds = true) (n : Nat) : btL (ds.take n) = true ∧ btL (ds.drop n) = true := by
  rw [← List.take_append_drop n ds, btL_app, Bool.and_eq_true] at h
  exact h
theorem btL_rev : ∀ {ds : List PyData}, btL ds = true → btL ds.reverse = true
  | [], _ => rfl
  | d :: ds, h => by
    unfold btL at h
    rw [Bool.and_eq_true] at h
    rw [List.reverse_cons, btL_app, btL_rev h.2]
    simp [btL, h.1]
theorem cap_pos (d : PyData) : 2 ≤ cap d := by cases d <;> unfold cap <;> omega
theorem capL_len : ∀ (ds : List PyData), 4 * ds.length ≤ capL ds
  | [] => by simp [capL]
  | d :: ds => by
    have := cap_pos d
    have := capL_len ds
    simp only [List.length_cons, capL]
    omega
/-! ### tuples put together and cut, whichever object it is -/
theorem r_catA {K : PySem.W.Frag} {H : Hp} {Q : VK} {p q : Addr} {xs ys : List V} (h1 : SqT K H p xs) (h2 : SqT K H q ys) (hz : xs.length + ys.length ≤ 1000000) (h : ∀ r H', Same H H' → SqT K H' r (xs ++ ys) → Q (.ref r) H') : rCatA K (.ref p) (.ref q) H Q := by
  refine ⟨p, q, xs, ys, rfl, rfl, h1, h2, le_line hz, fun e => ?_, fun _ e => ?_, fun _ _ r hr => h r _ (same_new hr) (SqT.of upd_same)⟩
  · subst e
    exact h _ _ (Same.refl _) h2
  · subst e
    rw [List.append_nil] at h
    exact h _ _ (Same.refl _) h1
theorem r_slA {K : PySem.W.Frag} {H : Hp} {Q : VK} {p : Addr} {xs : List V} {lo hi : Option Int} (h1 : SqT K H p xs) (h : ∀ r H', Same H H' → SqT K H' r (cutV xs lo hi) → Q (.ref r) H') : rSlA K (.ref p) lo hi H Q := by
  refine ⟨p, xs, rfl, h1, fun e => ?_, fun _ r hr => h r _ (same_new hr) (SqT.of upd_same)⟩
  have ec : cutV xs lo hi = xs := by
    unfold cutV
    rw [e.1, e.2]
    simp
  rw [ec] at h
  exact h _ _ (Same.refl _) h1
theorem cutV_to {xs : List V} {n : Nat} : cutV xs none (some (n : Int)) = xs.take n := by
  unfold cutV
  rw [HT.sIx_none, HT.sIx_nat]
  simp only [List.drop_zero, Nat.sub_zero]
  by_cases h : n ≤ xs.length
  · rw [Nat.min_eq_left h]
  · rw [Nat.min_eq_right (by omega), List.take_of_length_le (Nat.le_refl _), List.take_of_length_le (by omega)]
theorem cutV_from {xs : List V} {n : Nat} (h : n ≤ xs.length) : cutV xs (some (n : Int)) none = xs.drop n := by
  unfold cutV
  rw [HT.sIx_none, HT.sIx_nat, Nat.min_eq_left h]
  exact List.take_of_length_le (by rw [List.length_drop]; omega)
theorem cutV_dl {xs : List V} : cutV xs none (some (-1)) = xs.take (xs.length - 1) := by
  unfold cutV
  rw [HT.sIx_none]
  have e : HT.sIx xs.length xs.length (some (-1)) = xs.length - 1 := by
    show (if (-1 : Int) < 0 then ((-1 : Int) + (xs.length : Int)).toNat else min (-1 : Int).toNat xs.length) = xs.length - 1
    rw [if_pos (by decide)]
    omega
  rw [e]
  simp
theorem cutV_lst {xs : List V} : cutV xs (some (-1)) none = xs.drop (xs.length - 1) := by
  unfold cutV
  rw [HT.sIx_none]
  have e : HT.sIx xs.length 0 (some (-1)) = xs.length - 1 := by
    show (if (-1 : Int) < 0 then ((-1 : Int) + (xs.length : Int)).toNat else min (-1 : Int).toNat xs.length) = xs.length - 1
    rw [if_pos (by decide)]
    omega
  rw [e]
  exact List.take_of_length_le (by rw [List.length_drop]; omega)
/-! ### a def that is there: other promises -/
theorem Ok.imp {P : Program} {w : World} {K : PySem.W.Frag} {mg : Str → Option Value} {base : Heap} {CX : CXT} {k : Nat} {x : Str} {st : Stmt} {ps : List Str} {sp sp' : Sp} (o : Ok P w K mg base CX k x st ps sp) (h : ∀ vs H Q E, sp' vs H Q E → sp vs H Q E) : Ok P w K mg base CX k x st ps sp' := by
  obtain ⟨f, fd, g, D, b, F⟩ := o.ex
  exact ⟨⟨f, fd, g, D, b, F.imp h⟩⟩
theorem Ok.mono {P : Program} {w : World} {K : PySem.W.Frag} {mg : Str → Option Value} {base : Heap} {CX : CXT} {j k : Nat} {x : Str} {st : Stmt} {ps : List Str} {sp : Sp} (o : Ok P w K mg base CX j x st ps sp) (h : j ≤ k) : Ok P w K mg base CX k x st ps sp := by
  obtain ⟨f, fd, g, D, b, F⟩ := o.ex
  exact ⟨⟨f, fd, g, D, b, F.mono h⟩⟩
theorem Ok.or {P : Program} {w : World} {K : PySem.W.Frag} {mg : Str → Option Value} {base : Heap} {CX : CXT} {k : Nat} {x : Str} {st : Stmt} {ps : List Str} {sp sp' : Sp} (o : Ok P w K mg base CX k x st ps sp) (o' : Ok P w K mg base CX k x st ps sp') : Ok P w K mg base CX k x st ps (fun vs H Q E => sp vs H Q E ∨ sp' vs H Q E) := by
  obtain ⟨f, fd, g, D, b, F⟩ := o.ex
  have F' := o'.at g D
  refine ⟨⟨f, fd, g, D, b, ⟨fun vs H Q E h => h.elim (F.len vs H Q E) (F'.len vs H Q E), fun A outer s H args us vs Q E hr e0 bt r h => h.elim (F.run A outer s H args us vs Q E hr e0 bt r) (F'.run A outer s H args us vs Q E hr e0 bt r)⟩⟩⟩
/-! ### lists of small data, made piece by piece -/
section
variable {K : PySem.W.Frag} {a : Addr} {n m : Nat} {H0 B G G' : Hp} {c c' : Int} {L : List V} {x y : V} {d : PyData}
theorem sml_same (e : Same G G') (h : Sml K a G n m d x) : Sml K a G' n m d x := ⟨dat_same e h.1, h.2⟩
theorem sml_but (e : But a G G') (P : PotAt G a c) (h : Sml K a G n m d x) : Sml K a G' n m d x := ⟨dat_but e P h.1, h.2⟩
theorem sml_mono {n' m' : Nat} (h : Sml K a G n m d x) (hn : n ≤ n') (hm : m ≤ m') : Sml K a G n' m' d x := ⟨h.1, Nat.le_trans h.2.1 hm, Nat.le_trans h.2.2.1 hn, h.2.2.2⟩
/-- H0 where it began, G where it is, c how many draws, L what has been made -/
structure St (K : PySem.W.Frag) (a : Addr) (n m : Nat) (H0 : Hp) (c : Int) (L : List V) (G : Hp) : Prop where
  b : But a H0 G
  p : PotAt G a c
  g : ∀ x ∈ L, ∃ d, Sml K a G n m d x
theorem St.start (b : But a H0 G) (p : PotAt G a c) : St K a n m H0 c [] G := ⟨b, p, fun x h => by cases h⟩
theorem St.same (s : St K a n m H0 c L G) (e : Same G G') : St K a n m H0 c L G' := ⟨s.b.trans (But.of e), s.p.same e, fun x h => let ⟨d, z⟩ := s.g x h; ⟨d, sml_same e z⟩⟩
theorem St.but (s : St K a n m H0 c L G) (e : But a G G') (P : PotAt G' a c') : St K a n m H0 c' L G' := ⟨s.b.trans e, P, fun x h => let ⟨d, z⟩ := s.g x h; ⟨d, sml_but e s.p z⟩⟩
theorem St.add (s : St K a n m H0 c L G) (h : Sml K a G n m d y) : St K a n m H0 c (L ++ [y]) G := ⟨s.b, s.p, fun x hx => (List.mem_append.mp hx).elim (s.g x) fun z => by rw [List.mem_singleton.mp z]; exact ⟨d, h⟩⟩
theorem St.clear (s : St K a n m H0 c L G) : St K a n m H0 c [] G := ⟨s.b, s.p, fun x h => by cases h⟩
theorem dat_pair {t : Addr} {h r : List Nat} (D : Dat K a G (.tuple [.str (S h), .str (S r)]) (.ref t)) : SqT K G t [.str (S h), .str (S r)] := by
  obtain ⟨t', xs, e, hT, hL⟩ := dat_tupI D
  obtain rfl := V.ref.inj e
  obtain ⟨x1, x2, rfl, h1, h2⟩ := datL_two hL
  unfold Dat at h1 h2
  rw [h1.1, h2.1] at hT
  exact hT
theorem tup_neP {H : Hp} {t a : Addr} {xs : List V} {c : Int} (h : H t = some (.tup xs)) (p : PotAt H a c) : t ≠ a := by
  obtain ⟨own, sd, n, h1, _⟩ := p
  intro z
  subst z
  rw [h] at h1
  cases h1
theorem cap_S (l : List Nat) : cap (.str (S l)) = 10 * l.length + 2 := by unfold cap; rw [S_len]
theorem bt_S {l : List Nat} (h : ∀ c ∈ l, c < 128 ∧ c ≠ 10) (hl : l.length ≤ 400) : bt (.str (S l)) = true := by
  unfold bt
  rw [S_len, S_codes, Bool.and_eq_true, decide_eq_true_eq, List.all_eq_true]
  exact ⟨hl, fun c hc => by have := h c hc; rw [Bool.and_eq_true, decide_eq_true_eq, Bool.not_eq_true', decide_eq_false_iff_not]; exact this⟩
theorem wd_asc {l : List Nat} (h : Wd l) : ∀ c ∈ l, c < 128 ∧ c ≠ 10 := fun c hc => by rcases h c hc with rfl | rfl | rfl <;> decide
theorem dat_W {l : List Nat} (h : ∀ c ∈ l, c < 128) : Dat K a G (.str (S l)) (.str (S l)) := dat_S fun c hc => Nat.lt_trans (h c hc) (by decide)
theorem asc_rep {n c : Nat} (h : c < 128) : ∀ x ∈ List.replicate n c, x < 128 := fun x hx => by rw [(List.mem_replicate.mp hx).2]; exact h
end
theorem r_orT {K : PySem.W.Frag} {ta tb : TE} {σ : L2.St} {H : Hp} {Q : VK} (h : ta σ H fun x H1 => ∃ k, TruV K x H1 k ∧ if k = true then Q x H1 else tb σ H1 Q) : tOrT K ta tb σ H Q := h
theorem ofS_pts (t : String) : okPts (Str.ofString t) := by
  unfold okPts
  intro c hc
  have h : c ∈ t.toList.map Char.toNat := by
    rw [PyProof.Rows.signs_ofString] at hc
    exact hc
  obtain ⟨ch, _, rfl⟩ := List.mem_map.mp h
  have h2 : ch.toNat < 1114112 := by
    have := ch.valid
    unfold UInt32.isValidChar Nat.isValidChar at this
    show ch.val.toNat < 1114112
    omega
  exact Nat.lt_trans h2 (by decide)
theorem dat_txt {K : PySem.W.Frag} {a : Addr} {G : Hp} (t : String) : Dat K a G (.str (Str.ofString t)) (.str (Str.ofString t)) := by
  unfold Dat
  exact ⟨rfl, ofS_pts t⟩
theorem small_txt {i : Int} (h0 : 0 ≤ i) (h1 : i < 1000000) : cap (.str (Str.ofString (toString i))) ≤ 1000 := by
  have e := int_text_length_le (k := 20) (by decide) (log2_le (n := i.natAbs) (k := 20) (by omega) (by decide))
  unfold cap
  rw [PySem.ofString_length]
  omega
theorem big_log {i : Int} (h : i.natAbs < 2 ^ 1000) : i.natAbs.log2 < 1920 := Nat.lt_trans (log2_le h (by decide)) (by decide)
theorem big_log1 {i : Int} {k : Nat} (h : k < 2 ^ 1000) (h2 : i.natAbs ≤ k + 1) : i.natAbs.log2 < 1920 := by
  have e : (2 : Nat) ^ 1001 = 2 * 2 ^ 1000 := by decide +kernel
  have l : i.natAbs < 2 ^ 1001 := by omega
  exact Nat.lt_trans (log2_le l (by decide)) (by decide)
end Tf

set_option linter.all false
set_option maxRecDepth 100000
set_option maxHeartbeats 2000000
/-! mathematics of distances and twins -/
namespace Tf
open PySem L2
/-- places of all beginnings -/
def pls (l : List Nat) : List Int := (List.range (l.length + 1)).map fun i => pl (l.take i)
theorem pls_len (l : List Nat) : (pls l).length = l.length + 1 := by simp [pls]
theorem pls_last (l : List Nat) : atI ((pls l).map V.int) (-1) = some (.int (pl l)) := by
  have : pls l = (List.range l.length).map (fun i => pl (l.take i)) ++ [pl l] := by
    unfold pls
    rw [List.range_succ, List.map_append]
    simp
  rw [this, List.map_append]
  exact atI_last _ _
theorem pls_snoc (l : List Nat) (c : Nat) : pls (l ++ [c]) = pls l ++ [pst (pl l) c] := by
  unfold pls
  rw [List.length_append, List.length_singleton, List.range_succ (n := l.length + 1), List.map_append]
  congr 1
  · refine List.map_congr_left fun i hi => ?_
    have := List.mem_range.mp hi
    rw [List.take_append_of_le_length (by omega)]
  · rw [List.map_singleton, ← pl_snoc, List.take_of_length_le (by simp)]
theorem nu_min {p m : Int} (hm : m ∈ [(nu p).1, (nu p).2]) (hle : ∀ y, y ∈ [(nu p).1, (nu p).2] → m ≤ y) : m = p := by
  unfold nu at *
  split at hm <;> simp_all <;> omega
/-- the last letter, as a text -/
def lst1 (l : List Nat) : List Nat := l.drop (l.length - 1)
theorem lst1_snoc (z : List Nat) (c : Nat) : lst1 (z ++ [c]) = [c] := by
  unfold lst1
  rw [List.length_append, List.length_singleton, Nat.add_sub_cancel, List.drop_left]
theorem last_snoc {a : List Nat} {u : Nat} (h : a.getLast? = some u) : ∃ z, a = z ++ [u] := by
  have : a ≠ [] := fun z => by rw [z] at h; cases h
  rw [List.getLast?_eq_some_getLast this] at h
  have h := Option.some.inj h
  rw [← h]
  exact ⟨_, (List.dropLast_concat_getLast this).symm⟩
theorem lst1_dec (a : List Nat) (u : Nat) : decide (lst1 a = [u]) = decide (a.getLast? = some u) := by
  rw [decide_eq_decide]
  by_cases h : 0 < a.length
  · obtain ⟨z, c, rfl⟩ := snoc_of h
    rw [lst1_snoc, List.getLast?_concat]
    simp
  · have : a = [] := List.eq_nil_of_length_eq_zero (by omega)
    subst this
    simp [lst1]
theorem cut_lst (l : List Nat) : cutS (S l) (some (-1)) none = S (lst1 l) := by
  rw [cut_S, HT.sIx_none]
  have e : HT.sIx l.length 0 (some (-1)) = l.length - 1 := by
    show (if (-1 : Int) < 0 then ((-1 : Int) + (l.length : Int)).toNat else min (-1 : Int).toNat l.length) = l.length - 1
    rw [if_pos (by decide)]
    omega
  rw [e]
  unfold lst1
  rw [List.take_of_length_le]
  simp
def TwAt (H : Hp) (x : V) : Option (List Nat × List Nat) → Prop
  | none => x = .non
  | some y => ∃ u, x = .ref u ∧ H u = some (.tup [.str (S y.1), .str (S y.2)])
theorem TwAt.same {H H' : Hp} {x : V} {o : Option (List Nat × List Nat)} (e : Same H H') (h : TwAt H x o) : TwAt H' x o := by
  cases o with
  | none => exact h
  | some y =>
    obtain ⟨u, h1, h2⟩ := h
    exact ⟨u, h1, e _ _ h2⟩
/-- min of a tuple of ints -/
theorem min_intTuple {prog : Program} {w : World} {A : Around} {s : Shared} {E : Value → Shared → Prop} {l : Addr} {xs : Array (Int × Tok)} {Q : Value → Shared → Prop} (hh : A.handled = none) (hl : s.heap.IsTuple l (intItems xs)) (hne : 0 < xs.size)
    (h : ∀ v h' tk, (intItems xs)[argBest (fun i j => decide (numAt xs i < numAt xs j)) (xs.size - 1)]? = some v → (∀ b o, s.heap.get? b = some o → h'.get? b = some o) → Q v { s with heap := h', toks := tk }) :
    wpAny (model prog w) A (call (.builtin "min") [.ref l]) Q E s := by
  refine call_min_walk (wpAny_pyIter_tuple hl ?_)
  have hls : l < s.heap.objs.size := by
    obtain ⟨o, ho, _⟩ := hl
    exact Heap.lt_size ho
  refine ⟨_, [_, l], [_], _, _, _, _, rfl, Walks.tuple (A := A.in1) hh _ l (Nat.ne_of_lt hls) (intItems xs),
    ⟨⟨_, Heap.get?_push_size _ rfl, rfl, rfl⟩, hl.push _⟩, fun c hc => ?_, by simpa [intItems] using hne, CmpOf.ints_lt (numAt xs) (fun _ _ => intItems_at), fun v h' tk hP hk => ?_⟩
  · show c < (s.heap.push _).objs.size
    rw [Heap.size_push]
    rcases List.mem_cons.mp hc with rfl | hc
    · exact Nat.lt_succ_self _
    · rw [List.mem_singleton.mp hc]
      exact Nat.lt_succ_of_lt hls
  · exact h v h' tk (by simpa [intItems] using hP) fun b o e => hk b o (fun z => absurd (List.mem_singleton.mp z) (Nat.ne_of_lt (Heap.lt_size e))) (Heap.get?_push_of_some _ e)
def rMinT (K : PySem.W.Frag) : List V → Hp → VK → Prop := fun vs H Q => ∃ (a : Addr) (ns : List Int), vs = [V.ref a] ∧ SqT K H a (ns.map V.int) ∧ 0 < ns.length ∧ ∀ m, m ∈ ns → (∀ y, y ∈ ns → m ≤ y) → Q (.int m) H
theorem cr_minT {X : Cx} (hc : X.calm = true) : CallR X (.builtin "min") (rMinT X.K) := by
  intro pins s σ H vs us Q I r h
  obtain ⟨a, ns, rfl, hs, hne, q⟩ := h
  obtain ⟨its, rv, hl, _⟩ := I.tuple hs
  rw [Vals.ref1 r]
  have hi := rv.ints
  obtain ⟨xs, e⟩ := hi.allInts.items
  have hn : numsOf (intItems xs).toList = ns := by rw [← e]; exact hi.numsOf
  rw [nums_intItems] at hn
  subst hn
  have hl' : s.heap.IsTuple a its.toArray := hl
  rw [e] at hl'
  have hsz : 0 < xs.size := by simpa using hne
  refine min_intTuple (I.ok.hd hc) hl' hsz fun v h' tk hv hk => ?_
  obtain ⟨t, rfl⟩ := intItems_at hv
  obtain ⟨h1, h2⟩ := argBest_lt (numAt xs) (xs.size - 1)
  refine ⟨.int _, H, I.kept hk, ⟨_, rfl⟩, q _ ?_ fun a ha => ?_⟩
  · rw [numAt_eq]; exact PySem.getD_mem (by rw [List.length_map, Array.length_toList]; omega)
  · obtain ⟨j, hj, rfl⟩ := mem_getD ha
    rw [List.length_map, Array.length_toList] at hj
    rw [← numAt_eq]; exact h2 j (by omega)
theorem r_minT {K : PySem.W.Frag} {H : Hp} {Q : VK} {a : Addr} {ns : List Int} (hs : SqT K H a (ns.map V.int)) (h0 : 0 < ns.length) (q : ∀ m, m ∈ ns → (∀ y, y ∈ ns → m ≤ y) → Q (.int m) H) : rMinT K [.ref a] H Q := ⟨a, ns, rfl, hs, h0, q⟩
/-- the place of the first so many letters -/
def P (f : Nat → Nat) (n : Nat) : Int := pl (seg f 0 n)
theorem P_succ (f : Nat → Nat) (n : Nat) : P f (n + 1) = pst (P f n) (f n) := by
  unfold P
  rw [← pl_snoc]
  congr 1
  have h : seg f 0 n ++ seg f (0 + n) 1 = seg f 0 (n + 1) := seg_app
  rw [← h]
  congr 1
  simp [seg]
theorem P_zero (f : Nat → Nat) : P f 0 = 0 := rfl
theorem P_nn (f : Nat → Nat) (n : Nat) : 0 ≤ P f n := pl_nn _
theorem P_lt (f : Nat → Nat) (n : Nat) : P f n < 3 ^ n := by
  have := pl_lt (seg f 0 n)
  rwa [seg_len] at this
def ab (x : Int) : Int := if x < 0 then -x else x
/-- how far apart -/
def dst (f g : Nat → Nat) (n : Nat) : Int := ab (P f n - P g n)
theorem ix_ge (p : Int) (c : Nat) : 0 ≤ ((ix p c : Nat) : Int) := by omega
theorem dst_grow (f g : Nat → Nat) (n : Nat) (h : 1 < dst f g n) : 3 * dst f g n ≤ 2 * dst f g (n + 1) := by
  unfold dst at *
  rw [P_succ, P_succ]
  unfold pst
  have h1 := ix_le (P f n) (f n)
  have h2 := ix_le (P g n) (g n)
  generalize ix (P f n) (f n) = a at h1 ⊢
  generalize ix (P g n) (g n) = b at h2 ⊢
  unfold ab at *
  split at h <;> split <;> split <;> omega
theorem dst_mono (f g : Nat → Nat) (n : Nat) (h : 1 < dst f g n) : 1 < dst f g (n + 1) := by
  have := dst_grow f g n h
  omega
theorem dst_same {f g : Nat → Nat} {n : Nat} (h : ∀ i, i < n → f i = g i) : P f n = P g n := by
  unfold P
  congr 1
  exact seg_ext fun i hi => by rw [Nat.zero_add]; exact h i hi
def Fa (c : Nat) : Prop := c = 110 ∨ c = 102 ∨ c = 115
theorem ix_two {p : Int} {c : Nat} (hc : Fa c) (h : ix p c = 2) : (p % 2 = 0 ∧ c = 102) ∨ (p % 2 = 1 ∧ c = 115) := by
  unfold ix at h
  rcases (show p % 2 = 0 ∨ p % 2 = 1 by omega) with e | e
  · rw [if_pos e] at h
    rcases hc with rfl | rfl | rfl
    · exact absurd h (by decide)
    · exact .inl ⟨e, rfl⟩
    · exact absurd h (by decide)
  · rw [if_neg (by omega)] at h
    rcases hc with rfl | rfl | rfl
    · exact absurd h (by decide)
    · exact absurd h (by decide)
    · exact .inr ⟨e, rfl⟩
theorem ix_zero {p : Int} {c : Nat} (hc : Fa c) (h : ix p c = 0) : (p % 2 = 0 ∧ c = 115) ∨ (p % 2 = 1 ∧ c = 102) := by
  unfold ix at h
  rcases (show p % 2 = 0 ∨ p % 2 = 1 by omega) with e | e
  · rw [if_pos e] at h
    rcases hc with rfl | rfl | rfl
    · exact absurd h (by decide)
    · exact absurd h (by decide)
    · exact .inl ⟨e, rfl⟩
  · rw [if_neg (by omega)] at h
    rcases hc with rfl | rfl | rfl
    · exact absurd h (by decide)
    · exact .inr ⟨e, rfl⟩
    · exact absurd h (by decide)
/-- what keeps neighbours -/
theorem near_step {p : Int} {c d : Nat} (hc : Fa c) (hd : Fa d) (h : ab (pst p c - pst (p + 1) d) ≤ 1) : (p % 2 = 0 ∧ c = 102 ∧ d = 102) ∨ (p % 2 = 1 ∧ c = 115 ∧ d = 115) := by
  have h1 := ix_le p c
  have h2 := ix_le (p + 1) d
  have h3 : ix p c = 2 ∧ ix (p + 1) d = 0 := by
    unfold ab pst at h
    split at h <;> omega
  rcases ix_two hc h3.1 with ⟨a, b⟩ | ⟨a, b⟩ <;> rcases ix_zero hd h3.2 with ⟨a', b'⟩ | ⟨a', b'⟩
  · omega
  · exact .inl ⟨a, b, b'⟩
  · exact .inr ⟨a, b, b'⟩
  · omega
/-- neighbours that part in this round: who stands where -/
theorem part_step {p : Int} {c d : Nat} (hc : Fa c) (hd : Fa d) (ne : c ≠ d) (h : ab (pst p c - pst p d) ≤ 1) :
    (pst p d = pst p c + 1 ∨ pst p c = pst p d + 1) ∧ ∀ lo, (lo = pst p c ∨ lo = pst p d) → (pst p c = lo ∧ pst p d = lo + 1 ∨ pst p d = lo ∧ pst p c = lo + 1) →
      (lo % 2 = 0 ∧ c ≠ 102 ∧ d ≠ 102) ∨ (lo % 2 = 1 ∧ c ≠ 115 ∧ d ≠ 115) := by
  have vals : ∀ {c}, Fa c → (p % 2 = 0 ∧ (c = 115 ∧ ix p c = 0 ∨ c = 110 ∧ ix p c = 1 ∨ c = 102 ∧ ix p c = 2)) ∨ (p % 2 = 1 ∧ (c = 102 ∧ ix p c = 0 ∨ c = 110 ∧ ix p c = 1 ∨ c = 115 ∧ ix p c = 2)) := by
    intro c hc
    unfold ix
    rcases (show p % 2 = 0 ∨ p % 2 = 1 by omega) with e | e
    · rw [if_pos e]
      rcases hc with rfl | rfl | rfl <;> simp [e]
    · rw [if_neg (by omega)]
      rcases hc with rfl | rfl | rfl <;> simp [e]
  have v1 := vals hc
  have v2 := vals hd
  unfold ab pst at *
  generalize ix p c = i1 at *
  generalize ix p d = i2 at *
  refine ⟨?_, fun lo h3 h4 => ?_⟩
  · split at h <;> omega
  · split at h <;> omega
/-- the fate that keeps neighbours with this lower place -/
def kp (lo : Int) : Nat := if lo % 2 = 0 then 102 else 115
theorem kp_two (lo : Int) : kp lo = 102 ∨ kp lo = 115 := by unfold kp; split <;> simp
theorem kp_step (lo : Int) : ∃ lo', (∀ q, (q = lo ∨ q = lo + 1) → ∃ q', q' = pst q (kp lo) ∧ (q = lo → q' = lo') ∧ (q = lo + 1 → q' = lo' + 1)) ∧ kp lo' = kp lo := by
  rcases (show lo % 2 = 0 ∨ lo % 2 = 1 by omega) with e | e
  · refine ⟨3 * lo + 2, ?_, ?_⟩
    · rintro q (rfl | rfl)
      · exact ⟨_, rfl, fun _ => by unfold pst ix kp; simp [e], fun h => by omega⟩
      · have e' : ¬ (lo + 1) % 2 = 0 := by omega
        exact ⟨_, rfl, fun h => by omega, fun _ => by unfold pst ix kp; rw [if_pos e, if_neg e']; simp; omega⟩
    · unfold kp
      rw [if_pos e, if_pos (by omega)]
  · have e0 : ¬ lo % 2 = 0 := by omega
    refine ⟨3 * lo + 2, ?_, ?_⟩
    · rintro q (rfl | rfl)
      · exact ⟨_, rfl, fun _ => by unfold pst ix kp; rw [if_neg e0, if_neg e0]; simp, fun h => by omega⟩
      · have e' : (lo + 1) % 2 = 0 := by omega
        exact ⟨_, rfl, fun h => by omega, fun _ => by unfold pst ix kp; rw [if_neg e0, if_pos e']; simp; omega⟩
    · unfold kp
      rw [if_neg e0, if_neg (by omega)]
/-- two rows that stay beside one another from i to n -/
theorem stay_beside {f g : Nat → Nat} (wf : ∀ i, Fa (f i)) (wg : ∀ i, Fa (g i)) {i n : Nat} (hs : ∀ j, j < i → f j = g j) (ne : f i ≠ g i) (hi : i < n) (hd : ∀ m, m ≤ n → dst f g m ≤ 1) :
    ∃ c, (c = 102 ∨ c = 115) ∧ f i ≠ c ∧ g i ≠ c ∧ ∀ j, i < j → j < n → f j = c ∧ g j = c := by
  have hp : P f i = P g i := dst_same hs
  have h1 := hd (i + 1) hi
  have dd : dst f g (i + 1) = ab (pst (P f i) (f i) - pst (P f i) (g i)) := by unfold dst; rw [P_succ, P_succ, ← hp]
  rw [dd] at h1
  obtain ⟨h2, h3⟩ := part_step (wf i) (wg i) ne h1
  obtain ⟨lo, hlo, hlo2⟩ : ∃ lo, (lo = pst (P f i) (f i) ∨ lo = pst (P f i) (g i)) ∧ (pst (P f i) (f i) = lo ∧ pst (P f i) (g i) = lo + 1 ∨ pst (P f i) (g i) = lo ∧ pst (P f i) (f i) = lo + 1) := by
    rcases h2 with h | h
    · exact ⟨_, .inl rfl, .inl ⟨rfl, h⟩⟩
    · exact ⟨_, .inr rfl, .inr ⟨rfl, h⟩⟩
  have h4 := h3 lo hlo hlo2
  refine ⟨kp lo, kp_two lo, ?_, ?_, ?_⟩
  · unfold kp; rcases h4 with ⟨e, a, b⟩ | ⟨e, a, b⟩
    · rw [if_pos e]; exact a
    · rw [if_neg (by omega)]; exact a
  · unfold kp; rcases h4 with ⟨e, a, b⟩ | ⟨e, a, b⟩
    · rw [if_pos e]; exact b
    · rw [if_neg (by omega)]; exact b
  have key : ∀ k, i + 1 + k ≤ n → (∃ lo', kp lo' = kp lo ∧ (P f (i + 1 + k) = lo' ∧ P g (i + 1 + k) = lo' + 1 ∨ P g (i + 1 + k) = lo' ∧ P f (i + 1 + k) = lo' + 1)) ∧ ∀ j, i < j → j < i + 1 + k → f j = kp lo ∧ g j = kp lo := by
    intro k
    induction k with
    | zero =>
      intro _
      refine ⟨⟨lo, rfl, ?_⟩, fun j a b => by omega⟩
      show P f (i + 1) = lo ∧ P g (i + 1) = lo + 1 ∨ P g (i + 1) = lo ∧ P f (i + 1) = lo + 1
      rw [P_succ, P_succ, ← hp]
      exact hlo2
    | succ k ih =>
      intro hk
      obtain ⟨⟨lo', e1, e2⟩, e3⟩ := ih (by omega)
      have h5 := hd (i + 1 + k + 1) (by omega)
      have both : f (i + 1 + k) = kp lo' ∧ g (i + 1 + k) = kp lo' := by
        unfold dst at h5
        rw [P_succ, P_succ] at h5
        rcases e2 with ⟨a, b⟩ | ⟨a, b⟩
        · rw [a, b] at h5
          rcases near_step (wf _) (wg _) h5 with ⟨x, y, z⟩ | ⟨x, y, z⟩
          · unfold kp; rw [if_pos x]; exact ⟨y, z⟩
          · unfold kp; rw [if_neg (by omega)]; exact ⟨y, z⟩
        · rw [a, b] at h5
          have h6 : ab (pst lo' (g (i + 1 + k)) - pst (lo' + 1) (f (i + 1 + k))) ≤ 1 := by
            unfold ab at h5 ⊢
            split at h5 <;> split <;> omega
          rcases near_step (wg _) (wf _) h6 with ⟨x, y, z⟩ | ⟨x, y, z⟩
          · unfold kp; rw [if_pos x]; exact ⟨z, y⟩
          · unfold kp; rw [if_neg (by omega)]; exact ⟨z, y⟩
      refine ⟨?_, fun j a b => ?_⟩
      · obtain ⟨lo2, k1, k2⟩ := kp_step lo'
        refine ⟨lo2, k2.trans e1, ?_⟩
        show P f (i + 1 + k + 1) = lo2 ∧ P g (i + 1 + k + 1) = lo2 + 1 ∨ P g (i + 1 + k + 1) = lo2 ∧ P f (i + 1 + k + 1) = lo2 + 1
        rw [P_succ, P_succ, both.1, both.2]
        rcases e2 with ⟨a, b⟩ | ⟨a, b⟩
        · obtain ⟨q1, r1, r2, r3⟩ := k1 _ (.inl a)
          obtain ⟨q2, s1, s2, s3⟩ := k1 _ (.inr b)
          exact .inl ⟨by rw [← r1]; exact r2 a, by rw [← s1]; exact s3 b⟩
        · obtain ⟨q1, r1, r2, r3⟩ := k1 _ (.inl a)
          obtain ⟨q2, s1, s2, s3⟩ := k1 _ (.inr b)
          exact .inr ⟨by rw [← r1]; exact r2 a, by rw [← s1]; exact s3 b⟩
      · by_cases hj : j = i + 1 + k
        · subst hj
          rw [← e1]
          exact both
        · exact e3 j a (by omega)
  intro j a b
  exact (key (n - (i + 1)) (by omega)).2 j a (by omega)
/-- the third one: what is told of a and b -/
def oth (c x : Nat) : Nat := 327 - c - x
def twn (a b : List Nat) : Option (List Nat × List Nat) :=
  if b = [115] then (if a.getLast? = some 102 then some (a.dropLast ++ [110], [115]) else if a.getLast? = some 110 then some (a.dropLast ++ [102], [115]) else none)
  else if b = [102] then (if a.getLast? = some 115 then some (a.dropLast ++ [110], [102]) else if a.getLast? = some 110 then some (a.dropLast ++ [115], [102]) else none)
  else none
theorem rw_fa {h r : List Nat} (wh : Wd h) (wr : Wd r) (r0 : 0 < r.length) (i : Nat) : Fa (rw h r i) := by
  by_cases hi : i < h.length
  · rw [rw_lt hi, List.getD_eq_getElem?_getD, List.getElem?_eq_getElem hi]
    exact wh _ (List.getElem_mem hi)
  · have hm : (i - h.length) % r.length < r.length := Nat.mod_lt _ r0
    rw [rw_ge (by omega), List.getD_eq_getElem?_getD, List.getElem?_eq_getElem hm]
    exact wr _ (List.getElem_mem hm)
/-- what is told of a row that is c for ever behind a round of another fate -/
theorem least_const {h r a b : List Nat} {i c : Nat} (x : Least h r a b) (hc : ∀ j, i < j → rw h r j = c) (ne : rw h r i ≠ c) : a = seg (rw h r) 0 (i + 1) ∧ b = [c] := by
  have hper : Per (rw h r) (i + 1) 1 := fun j hj => by rw [hc j (by omega), hc (j + 1) (by omega)]
  have hmin : IsMin (rw h r) (i + 1) 1 := ⟨by decide, hper, fun m' p' h0 hp => by
    refine Nat.le_of_not_lt fun hlt => ne ?_
    have := hp i (by omega)
    rw [hc (i + p') (by omega)] at this
    exact this.symm, fun p' h0 _ => h0⟩
  obtain ⟨e1, e2⟩ := x.min.uniq hmin
  have r1 := rw_head a b
  have r2 := rw_ring a b
  rw [x.row, e1] at r1
  rw [x.row, e1, e2] at r2
  refine ⟨r1.symm, ?_⟩
  rw [← r2]
  simp [seg, hc (i + 1) (by omega)]
theorem seg_succ (f : Nat → Nat) (n : Nat) : seg f 0 (n + 1) = seg f 0 n ++ [f n] := by
  have h : seg f 0 n ++ seg f (0 + n) 1 = seg f 0 (n + 1) := seg_app
  rw [← h]
  congr 1
  simp [seg]
/-- twins, by their least forms -/
theorem twn_of {f g : Nat → Nat} (wf : ∀ i, Fa (f i)) (wg : ∀ i, Fa (g i)) {i c : Nat} (hs : ∀ j, j < i → f j = g j) (ne : f i ≠ g i) (hc : c = 102 ∨ c = 115) (n1 : f i ≠ c) (n2 : g i ≠ c) :
    twn (seg f 0 (i + 1)) [c] = some (seg g 0 (i + 1), [c]) := by
  have e : seg f 0 i = seg g 0 i := seg_ext fun j hj => by rw [Nat.zero_add]; exact hs j hj
  rw [seg_succ, seg_succ, e]
  unfold twn
  rw [List.getLast?_concat, List.dropLast_concat]
  have w1 := wf i
  have w2 := wg i
  generalize f i = x at *
  generalize g i = y at *
  rcases hc with rfl | rfl <;> rcases w1 with rfl | rfl | rfl <;> rcases w2 with rfl | rfl | rfl <;> simp at ne n1 n2 ⊢
/-- rows of short heads and rounds that stay beside one another are alike or twins -/
theorem grown {h r h' r' : List Nat} (wh : Wd h) (wr : Wd r) (wh' : Wd h') (wr' : Wd r') (r0 : 0 < r.length) (r0' : 0 < r'.length) {M p n : Nat} (l1 : h.length ≤ M) (l2 : h'.length ≤ M) (l3 : r.length ≤ p) (l4 : r'.length ≤ p)
    (hn : M + 4 * p + 2 ≤ n) (ne : rw h r ≠ rw h' r') (hd : ∀ m, m ≤ n → dst (rw h r) (rw h' r') m ≤ 1) :
    ∃ i c, (c = 102 ∨ c = 115) ∧ (∀ j, j < i → rw h r j = rw h' r' j) ∧ rw h r i ≠ rw h' r' i ∧ rw h r i ≠ c ∧ rw h' r' i ≠ c ∧ (∀ j, i < j → rw h r j = c) ∧ ∀ j, i < j → rw h' r' j = c := by
  have hex : ∃ i, i < M + r.length + r'.length ∧ rw h r i ≠ rw h' r' i := by
    refine Classical.byContradiction fun z => ne ?_
    refine fine_wilf ((rw_per h r).mono l1) ((rw_per h' r').mono l2) r0 r0' fun i hi => ?_
    exact Classical.byContradiction fun y => z ⟨i, hi, y⟩
  obtain ⟨i0, hi0, hne⟩ := hex
  obtain ⟨i, hi, hl⟩ := least_ex (P := fun i => rw h r i ≠ rw h' r' i) i0 hne
  have hs : ∀ j, j < i → rw h r j = rw h' r' j := fun j hj => Classical.byContradiction fun z => by
    have := hl j z
    omega
  have hii : i < M + 2 * p := by
    have := hl i0 hne
    omega
  obtain ⟨c, c1, c2, c3, c4⟩ := stay_beside (rw_fa wh wr r0) (rw_fa wh' wr' r0') hs hi (n := n) (by omega) hd
  have ext : ∀ (h r : List Nat), 0 < r.length → h.length ≤ M → r.length ≤ p → (∀ j, i < j → j < n → rw h r j = c) → ∀ j, i < j → rw h r j = c := by
    intro h r r0 l1 l3 hc j
    induction j using Nat.strongRecOn with
    | _ j ih =>
      intro hj
      by_cases hjn : j < n
      · exact hc j hj hjn
      · have := rw_per h r (j - r.length) (by omega)
        rw [show j - r.length + r.length = j by omega] at this
        rw [this]
        exact ih _ (by omega) (by omega)
  exact ⟨i, c, c1, hs, hi, c2, c3, ext h r r0 l1 l3 fun j a b => (c4 j a b).1, ext h' r' r0' l2 l4 fun j a b => (c4 j a b).2⟩
/-- twins stay beside one another -/
theorem twins_near {f g : Nat → Nat} {i c : Nat} (wf : ∀ i, Fa (f i)) (wg : ∀ i, Fa (g i)) (hs : ∀ j, j < i → f j = g j) (hc : c = 102 ∨ c = 115) (ne : f i ≠ g i) (n1 : f i ≠ c) (n2 : g i ≠ c) (h1 : ∀ j, i < j → f j = c) (h2 : ∀ j, i < j → g j = c) :
    ∀ m, dst f g m ≤ 1 ∧ (i < m → dst f g m = 1) := by
  have hp : P f i = P g i := dst_same hs
  have key : ∀ k, ∃ lo, kp lo = c ∧ (P f (i + 1 + k) = lo ∧ P g (i + 1 + k) = lo + 1 ∨ P g (i + 1 + k) = lo ∧ P f (i + 1 + k) = lo + 1) := by
    intro k
    induction k with
    | zero =>
      show ∃ lo, kp lo = c ∧ (P f (i + 1) = lo ∧ P g (i + 1) = lo + 1 ∨ P g (i + 1) = lo ∧ P f (i + 1) = lo + 1)
      rw [P_succ, P_succ, ← hp]
      have w1 := wf i
      have w2 := wg i
      generalize f i = x at *
      generalize g i = y at *
      generalize P f i = p
      unfold pst ix kp
      rcases (show p % 2 = 0 ∨ p % 2 = 1 by omega) with e | e
      · rw [if_pos e, if_pos e]
        rcases hc with rfl | rfl <;> rcases w1 with rfl | rfl | rfl <;> rcases w2 with rfl | rfl | rfl <;> simp at ne n1 n2 ⊢
        · exact ⟨3 * p, by omega, by omega⟩
        · exact ⟨3 * p, by omega, by omega⟩
        · exact ⟨3 * p + 1, by omega, by omega⟩
        · exact ⟨3 * p + 1, by omega, by omega⟩
      · have e' : ¬ p % 2 = 0 := by omega
        rw [if_neg e', if_neg e']
        rcases hc with rfl | rfl <;> rcases w1 with rfl | rfl | rfl <;> rcases w2 with rfl | rfl | rfl <;> simp at ne n1 n2 ⊢
        · exact ⟨3 * p + 1, by omega, by omega⟩
        · exact ⟨3 * p + 1, by omega, by omega⟩
        · exact ⟨3 * p, by omega, by omega⟩
        · exact ⟨3 * p, by omega, by omega⟩
    | succ k ih =>
      obtain ⟨lo, e1, e2⟩ := ih
      obtain ⟨lo2, k1, k2⟩ := kp_step lo
      refine ⟨lo2, k2.trans e1, ?_⟩
      show P f (i + 1 + k + 1) = lo2 ∧ P g (i + 1 + k + 1) = lo2 + 1 ∨ P g (i + 1 + k + 1) = lo2 ∧ P f (i + 1 + k + 1) = lo2 + 1
      rw [P_succ, P_succ, h1 _ (by omega), h2 _ (by omega), ← e1]
      rcases e2 with ⟨a, b⟩ | ⟨a, b⟩
      · obtain ⟨q1, r1, r2, r3⟩ := k1 _ (.inl a)
        obtain ⟨q2, s1, s2, s3⟩ := k1 _ (.inr b)
        exact .inl ⟨by rw [← r1]; exact r2 a, by rw [← s1]; exact s3 b⟩
      · obtain ⟨q1, r1, r2, r3⟩ := k1 _ (.inl a)
        obtain ⟨q2, s1, s2, s3⟩ := k1 _ (.inr b)
        exact .inr ⟨by rw [← r1]; exact r2 a, by rw [← s1]; exact s3 b⟩
  have hgt : ∀ m, i < m → dst f g m = 1 := fun m hm => by
    obtain ⟨k, rfl⟩ : ∃ k, m = i + 1 + k := ⟨m - (i + 1), by omega⟩
    obtain ⟨lo, _, e2⟩ := key k
    unfold dst ab
    rcases e2 with ⟨a, b⟩ | ⟨a, b⟩ <;> rw [a, b] <;> split <;> omega
  intro m
  refine ⟨?_, hgt m⟩
  by_cases hm : i < m
  · have := hgt m hm
    omega
  · unfold dst
    rw [dst_same (f := f) (g := g) (n := m) fun j hj => hs j (by omega), Int.sub_self]
    decide
/-- what a told twin is -/
theorem twn_some {a b : List Nat} {y : List Nat × List Nat} (e : twn a b = some y) : ∃ (z : List Nat) (u v c : Nat), a = z ++ [u] ∧ b = [c] ∧ y = (z ++ [v], [c]) ∧ (c = 102 ∨ c = 115) ∧ u ≠ v ∧ u ≠ c ∧ v ≠ c ∧ Fa u ∧ Fa v := by
  unfold twn at e
  have go : ∀ u, a.getLast? = some u → a = a.dropLast ++ [u] := fun u h => by
    have : a ≠ [] := fun z => by rw [z] at h; cases h
    rw [List.getLast?_eq_some_getLast this] at h
    have h := Option.some.inj h
    rw [← h]
    exact (List.dropLast_concat_getLast this).symm
  split at e
  · rename_i hb
    split at e
    · rename_i h
      exact ⟨_, 102, 110, 115, go _ h, hb, (Option.some.inj e).symm, by decide, by decide, by decide, by decide, by unfold Fa; decide, by unfold Fa; decide⟩
    · split at e
      · rename_i h
        exact ⟨_, 110, 102, 115, go _ h, hb, (Option.some.inj e).symm, by decide, by decide, by decide, by decide, by unfold Fa; decide, by unfold Fa; decide⟩
      · cases e
  · split at e
    · rename_i hb
      split at e
      · rename_i h
        exact ⟨_, 115, 110, 102, go _ h, hb, (Option.some.inj e).symm, by decide, by decide, by decide, by decide, by unfold Fa; decide, by unfold Fa; decide⟩
      · split at e
        · rename_i h
          exact ⟨_, 110, 115, 102, go _ h, hb, (Option.some.inj e).symm, by decide, by decide, by decide, by decide, by unfold Fa; decide, by unfold Fa; decide⟩
        · cases e
    · cases e
/-- a row that is so many letters, and then one for ever -/
theorem rw_snoc (z : List Nat) (u c : Nat) : (∀ j, j < z.length → rw (z ++ [u]) [c] j = z.getD j 0) ∧ rw (z ++ [u]) [c] z.length = u ∧ ∀ j, z.length < j → rw (z ++ [u]) [c] j = c := by
  refine ⟨fun j hj => ?_, ?_, fun j hj => ?_⟩
  · rw [rw_lt (by simp; omega), List.getD_eq_getElem?_getD, List.getD_eq_getElem?_getD, List.getElem?_append_left hj]
  · rw [rw_lt (by simp), List.getD_eq_getElem?_getD, List.getElem?_append_right (Nat.le_refl _)]
    simp
  · rw [rw_ge (by simp; omega)]
    simp [Nat.mod_one]
/-- a small loss that stands at t -/
def Lo (H : Hp) (t : Addr) (h r : List Nat) : Prop := H t = some (.tup [.str (S h), .str (S r)]) ∧ Wd h ∧ Wd r ∧ h.length ≤ 14 ∧ r.length ≤ 3 ∧ 0 < r.length
theorem Lo.same {H H' : Hp} {t : Addr} {h r : List Nat} (x : Lo H t h r) (e : Same H H') : Lo H' t h r := ⟨e _ _ x.1, x.2⟩
theorem tup_ne {H : Hp} {t a : Addr} {xs : List V} {c : Int} (h : H t = some (.tup xs)) (p : PotAt H a c) : t ≠ a := by
  obtain ⟨own, sd, n, h1, _⟩ := p
  intro z
  subst z
  rw [h] at h1
  cases h1
theorem Lo.but {H H' : Hp} {t a : Addr} {h r : List Nat} {c : Int} (x : Lo H t h r) (b : But a H H') (p : PotAt H a c) : Lo H' t h r := ⟨b _ _ (tup_ne x.1 p) x.1, x.2⟩
theorem wd_segF {f : Nat → Nat} (w : ∀ i, Fa (f i)) (a n : Nat) : Wd (seg f a n) := fun c hc => by
  unfold seg at hc
  obtain ⟨j, _, e⟩ := List.mem_map.mp hc
  rw [← e]
  exact w _
theorem dst_nn (f g : Nat → Nat) (n : Nat) : 0 ≤ dst f g n := by unfold dst ab; split <;> omega
theorem dst_lt (f g : Nat → Nat) (n : Nat) : dst f g n < 3 ^ n := by
  have h1 := P_lt f n
  have h2 := P_lt g n
  have h3 := P_nn f n
  have h4 := P_nn g n
  unfold dst ab
  split <;> omega
theorem pow3_le {i n : Nat} (h : i ≤ n) : (3 : Int) ^ i ≤ 3 ^ n := by
  obtain ⟨k, rfl⟩ := Nat.exists_eq_add_of_le h
  rw [Int.pow_add]
  have h1 := pow3_pos k
  have h2 := pow3_pos i
  have := Int.mul_le_mul_of_nonneg_left (show (1 : Int) ≤ 3 ^ k by omega) (Int.le_of_lt h2)
  omega
theorem acc_ints {acc : List V} {n : Nat} {g : Nat → Int} (hl : acc.length = n) (h : ∀ (i : Nat) (v : V), acc[i]? = some v → v = .int (g i)) : acc = (List.range n).map fun i => V.int (g i) := by
  subst hl
  refine List.ext_getElem? fun i => ?_
  by_cases hi : i < acc.length
  · rw [List.getElem?_map, List.getElem?_range hi, List.getElem?_eq_getElem hi]
    exact congrArg some (h i _ (List.getElem?_eq_getElem hi))
  · rw [List.getElem?_eq_none (by omega), List.getElem?_eq_none (by rw [List.length_map, List.length_range]; omega)]
theorem r_maxL {K : PySem.W.Frag} {H : Hp} {Q : VK} {a : Addr} {ns : List Int} (hs : SqL K H a (ns.map V.int)) (h0 : 0 < ns.length) (q : ∀ m, m ∈ ns → (∀ y, y ∈ ns → y ≤ m) → Q (.int m) H) : rMax K [.ref a] H Q := ⟨a, ns, rfl, hs, h0, q⟩
theorem cut_one (l : List V) : cutV l (some 1) none = l.drop 1 := by
  unfold cutV
  rw [HT.sIx_none]
  by_cases h : 1 ≤ l.length
  · rw [show HT.sIx l.length 0 (some 1) = 1 from sIx_le h]
    exact List.take_of_length_le (by rw [List.length_drop]; omega)
  · have : l = [] := List.eq_nil_of_length_eq_zero (by omega)
    subst this
    rfl
theorem Wd.left {a b : List Nat} (h : Wd (a ++ b)) : Wd a := fun c hc => h c (List.mem_append.mpr (.inl hc))
theorem Wd.right {a b : List Nat} (h : Wd (a ++ b)) : Wd b := fun c hc => h c (List.mem_append.mpr (.inr hc))
/-- == of what is told as a twin, and a loss -/
theorem r_eqTw {K : PySem.W.Frag} {H : Hp} {Q : VK} {x : V} {u : Addr} {o : Option (List Nat × List Nat)} {c d : List Nat} (h1 : TwAt H x o) (h2 : H u = some (.tup [.str (S c), .str (S d)])) (ho : ∀ y, o = some y → Wd y.1 ∧ Wd y.2) (oc : Wd c) (od : Wd d)
    (q : Q (.bl (decide (o = some (c, d)))) H) : rEqD K x (.ref u) H Q := by
  cases o with
  | none =>
    obtain rfl : x = .non := h1
    refine ⟨_, _, .non, .tup (SqT.of h2) (.cons (.str _) (.cons (.str _) .nil)), rfl, ?_, ?_⟩
    · unfold SeqAt.shaped
      simp only [PyData.canLay0, PyData.canLayAll0, ok_S oc, ok_S od, PyData.depth, PyData.depthAll]
      rfl
    · rw [decide_eq_false (fun z => nomatch z)] at q
      exact q
  | some y =>
    obtain ⟨u', rfl, h3⟩ := h1
    obtain ⟨w1, w2⟩ := ho y rfl
    refine r_eqSS (SqT.of h3) (SqT.of h2) w1 w2 oc od ?_
    rw [show decide (y.1 = c ∧ y.2 = d) = decide (some y = some (c, d)) from decide_eq_decide.mpr ⟨fun z => congrArg some (Prod.ext z.1 z.2), fun z => ⟨congrArg Prod.fst (Option.some.inj z), congrArg Prod.snd (Option.some.inj z)⟩⟩]
    exact q
theorem twn_wd {a b : List Nat} (wa : Wd a) (wb : Wd b) {y : List Nat × List Nat} (e : twn a b = some y) : Wd y.1 ∧ Wd y.2 := by
  obtain ⟨z, p1, p2, p3, rfl, rfl, rfl, _, _, _, _, _, fa2⟩ := twn_some e
  exact ⟨wa.left.app fun c hc => by rw [List.mem_singleton.mp hc]; exact fa2, wb⟩
theorem least_ne {h r z : List Nat} {u c : Nat} (x : Least h r (z ++ [u]) [c]) : u ≠ c := fun e => by
  subst e
  obtain ⟨s1, s2, s3⟩ := rw_snoc z u u
  rw [x.row] at s2 s3
  have hper : Per (rw h r) z.length 1 := fun j hj => by
    rw [s3 (j + 1) (by omega)]
    by_cases e : j = z.length
    · rw [e, s2]
    · rw [s3 j (by omega)]
  have := x.min.head z.length 1 (by decide) hper
  simp at this
  omega
/-- what is told as twin is in its least form -/
theorem least_twn {z : List Nat} {v c : Nat} (h : v ≠ c) : Least (z ++ [v]) [c] (z ++ [v]) [c] := by
  obtain ⟨s1, s2, s3⟩ := rw_snoc z v c
  refine ⟨rfl, ?_⟩
  have hper := rw_per (z ++ [v]) [c]
  refine ⟨by simp, hper, fun m' p' h0 hp => ?_, fun p' h0 _ => by simp; omega⟩
  refine Nat.le_of_not_lt fun hlt => h ?_
  rw [List.length_append, List.length_singleton] at hlt
  have := hp z.length (by omega)
  rw [s3 _ (by omega), s2] at this
  exact this.symm
theorem twn_sym {a b a' b' : List Nat} (e : twn a b = some (a', b')) : twn a' b' = some (a, b) := by
  obtain ⟨z, u, v, c, rfl, rfl, e2, hc, n1, n2, n3, f1, f2⟩ := twn_some e
  obtain ⟨rfl, rfl⟩ := Prod.mk.inj e2
  unfold twn
  rw [List.getLast?_concat, List.dropLast_concat]
  rcases hc with rfl | rfl <;> rcases f1 with rfl | rfl | rfl <;> rcases f2 with rfl | rfl | rfl <;> simp at n1 n2 n3 ⊢
theorem twn_irr {a b : List Nat} : twn a b ≠ some (a, b) := fun e => by
  obtain ⟨z, u, v, c, rfl, rfl, e2, hc, n1, _⟩ := twn_some e
  have := (Prod.mk.inj e2).1
  simp at this
  exact n1 this
/-- one letter put in between head and round: no twin -/
theorem near_none {h r a b a' b' : List Nat} {x : Nat} (r0 : 0 < r.length) (l1 : Least h r a b) (l2 : Least (h ++ [x]) r a' b') : twn a b ≠ some (a', b') := fun e => by
  obtain ⟨z, u, v, c, rfl, rfl, e2, hc, n1, n2, n3, _, _⟩ := twn_some e
  obtain ⟨rfl, rfl⟩ := Prod.mk.inj e2
  obtain ⟨s1, s2, s3⟩ := rw_snoc z u c
  obtain ⟨t1, t2, t3⟩ := rw_snoc z v c
  rw [l1.row] at s1 s2 s3
  rw [l2.row] at t1 t2 t3
  by_cases hz : z.length < h.length
  · rw [rw_lt hz] at s2
    rw [rw_lt (by simp; omega), List.getD_eq_getElem?_getD, List.getElem?_append_left hz, ← List.getD_eq_getElem?_getD, s2] at t2
    exact n1 t2
  · have := rw_per h r z.length (by omega)
    rw [s3 _ (by omega), s2] at this
    exact n2 this.symm
end Tf

set_option Elab.async false
set_option linter.all false
set_option maxRecDepth 100000
set_option maxHeartbeats 2000000
/-! a text unpacked into names; tables with text keys of the program's top; x in a tuple of data -/
namespace Tf
open PySem PySem.Spec PyProof.Rows L2
/-! ### a text unpacked -/
section
variable {prog : Program} {w : World} {A : Around} {E : Value → Shared → Prop}
theorem walks_draw {I : Addr} {fp wr : List Addr} {n : Nat} {Pt : Nat → Value → Prop} {St : Nat → Heap → Prop} (W : Walks prog w A I fp wr n Pt St) : ∀ (k i : Nat) (s : Shared) (Q : List Value → Shared → Prop), St i s.heap → i + k ≤ n →
    (∀ us h' tk, us.length = k → (∀ (j : Nat) u, us[j]? = some u → Pt (i + j) u) → St (i + k) h' → (∀ b o, b ∉ wr → s.heap.get? b = some o → h'.get? b = some o) → Q us { s with heap := h', toks := tk }) → wpAny (model prog w) A (draw (.ref I) k) Q E s
  | 0, i, s, Q, st, _, hQ => by
    show wpAny _ _ (pure []) Q E s
    exact wpAny_pure (hQ [] s.heap s.toks rfl (fun j u e => by simp at e) st fun _ _ _ e => e)
  | k + 1, i, s, Q, st, hle, hQ => by
    show wpAny _ _ (pyNext (.ref I) >>= _) Q E s
    refine wpAny_bind (W.item i s _ E (by omega) st fun v h1 tk1 hv st1 k1 => ?_)
    refine wpAny_bind (wpAny_holding (walks_draw W k (i + 1) _ _ st1 (by omega) fun us h2 tk2 l2 p2 st2 k2 => wpAny_pure ?_))
    refine hQ (v :: us) h2 tk2 (by rw [List.length_cons, l2]) (fun j u e => ?_) (by rw [show i + (k + 1) = i + 1 + k by omega]; exact st2) fun b o hb e => k2 b o hb (k1 b o hb e)
    cases j with
    | zero => rw [Nat.add_zero, ← Option.some.inj e]; exact hv
    | succ j => rw [show i + (j + 1) = i + 1 + j by omega]; exact p2 j u e
theorem unpack_txt {z : Str} {t : Tok} {s : Shared} {Q : List Value → Shared → Prop} (hh : A.handled = none)
    (hQ : ∀ us h' tk, us.length = z.cps.size → (∀ (j : Nat) u, us[j]? = some u → SignAt z j u) → (∀ b o, s.heap.get? b = some o → h'.get? b = some o) → Q us { s with heap := h', toks := tk }) :
    wpAny (model prog w) A (unpackItems (.str z t) z.cps.size none) Q E s := by
  unfold unpackItems
  refine wpAny_bind ?_
  · unfold notIterableAtAll
    refine wpAny_bind (wpAny_specialOf (typeIs_str s z t) F.slot_str_iter.lookup ?_)
    refine wpAny_pure ?_
    simp only [Bool.false_eq_true, if_false]
    refine wpAny_bind (wpAny_holding (wpAny_pyIter_str fun o St W st => ?_))
    refine wpAny_bind (wpAny_holding (walks_draw (W A hh) z.cps.size 0 _ _ st (by omega) fun us h1 tk1 l1 p1 st1 k1 => ?_))
    rw [if_neg (by omega)]
    rw [Nat.zero_add] at st1
    refine wpAny_bind (wpAny_holding ((W A hh).done _ _ E st1 fun h2 tk2 k2 => ?_))
    simp only [Option.isSome_none, Bool.false_eq_true, if_false]
    refine wpAny_pure (hQ us h2 tk2 l1 (fun j u e => by have := p1 j u e; rwa [Nat.zero_add] at this) fun b ob e => ?_)
    have hb : b ∉ [s.heap.objs.size] := fun m => absurd (List.mem_singleton.mp m) (Nat.ne_of_lt (Heap.lt_size e))
    exact k2 b ob hb (k1 b ob hb (Heap.get?_push_of_some _ e))
end
def gTxt (n : Nat) (t : TGs) : TG := fun v σ H Q => ∃ z, v = .str z ∧ z.cps.size = n ∧ t (signsV z) σ H Q
theorem pg_txt {X : Cx} {pos : Pos} {es : List Expr} {k : Nat} {t : TGs} {n : Nat} (hc : X.calm = true) (h : PGs X es t)
    (hn : (assignEach es X.env).length = n := by rfl) (hst : (assignEach es X.env).findIdx? (·.1) = none := by rfl) : PG X (.Tuple es k pos) (gTxt n t) := by
  refine ⟨fun pins s σ H v u Q I r hw => ?_⟩
  obtain ⟨z, e1, hl, hw⟩ := hw
  subst e1
  obtain ⟨tk, rfl⟩ := r
  have hsz : (assignEach es X.env).length = z.cps.size := by rw [hn, ← hl]
  rw [PyProof.Rows.assign_Tuple]
  refine wpAny_bind (wpAny_standAt ?_)
  unfold unpack
  rw [hsz, hst]
  refine wpAny_bind (wpAny_holding (unpack_txt (I.ok.hd hc) fun us h' tk' l1 p1 hx => ?_))
  have I1 : Inv X pins σ H { s with heap := h', toks := tk' } := I.kept (t' := tk') hx
  have rv : Vals (signsV z) us := by
    have := vals_signs (z := z) (acc := us.toArray) ⟨by simpa using l1, fun j v e => p1 j v (by simpa using e)⟩
    simpa using this
  exact h.run pins _ σ H _ _ Q I1 rv hw
theorem r_gTxt {l : List Nat} {t : TGs} {σ : L2.St} {H : Hp} {Q : L2.St → Hp → Prop} (h : t (l.map fun c => V.str (S [c])) σ H Q) : gTxt l.length t (.str (S l)) σ H Q := ⟨_, rfl, by simp [S], by rw [signs_S]; exact h⟩
theorem r_gTxt2 {x y : Nat} {t : TGs} {σ : L2.St} {H : Hp} {Q : L2.St → Hp → Prop} (h : t [V.str (S [x]), V.str (S [y])] σ H Q) : gTxt 2 t (.str (S [x, y])) σ H Q := r_gTxt (l := [x, y]) h
/-! ### tables -/
def lkp (kvs : List (List Nat × V)) (z : List Nat) : Option V := (kvs.find? fun q => decide (q.1 = z)).map (·.2)
def KTab (K : PySem.W.Frag) (w : World) (d : Addr) (kvs : List (List Nat × V)) : Prop :=
  (∃ es n, KDict K w d es n) ∧ ∀ z, ∃ r, PySem.W.nsIn K d (S z) = some r ∧ (match lkp kvs z with | none => r = none | some v => ∃ u, r = some u ∧ RelV v u)
def rInTab (neg : Bool) (d : Addr) (kvs : List (List Nat × V)) : R2 := fun x y H Q => ∃ z, x = .str (S z) ∧ y = .ref d ∧ Q (.bl (if neg then !(lkp kvs z).isSome else (lkp kvs z).isSome)) H
def rIxTab (d : Addr) (kvs : List (List Nat × V)) : R2 := fun x y H Q => ∃ z v, x = .ref d ∧ y = .str (S z) ∧ lkp kvs z = some v ∧ Q v H
section
variable {X : Cx} {d : Addr} {kvs : List (List Nat × V)}
theorem tab_some (T : KTab X.K X.w d kvs) (z : List Nat) : ∃ r, PySem.W.nsIn X.K d (S z) = some r ∧ r.isSome = (lkp kvs z).isSome := by
  obtain ⟨r, e, h⟩ := T.2 z
  refine ⟨r, e, ?_⟩
  cases q : lkp kvs z with
  | none => rw [q] at h; rw [h]; rfl
  | some v => rw [q] at h; obtain ⟨u, h, _⟩ := h; rw [h]; rfl
theorem op_in_tab (T : KTab X.K X.w d kvs) : OpR X (compareOp .In) (rInTab false d kvs) := by
  intro pins s σ H x y v u Q I rx ry h
  obtain ⟨z, rfl, rfl, q⟩ := h
  obtain ⟨es, n, D⟩ := T.1
  obtain ⟨r, e, hr⟩ := tab_some T z
  exact op_in_kd D pins s σ H _ _ v u Q I rx ry ⟨S z, r, rfl, rfl, e, by rw [hr]; exact q⟩
theorem op_notIn_tab (T : KTab X.K X.w d kvs) : OpR X (compareOp .NotIn) (rInTab true d kvs) := by
  intro pins s σ H x y v u Q I rx ry h
  obtain ⟨z, rfl, rfl, q⟩ := h
  obtain ⟨es, n, D⟩ := T.1
  obtain ⟨r, e, hr⟩ := tab_some T z
  exact op_notIn_kd D pins s σ H _ _ v u Q I rx ry ⟨S z, r, rfl, rfl, e, by rw [hr]; exact q⟩
theorem ix_tab (T : KTab X.K X.w d kvs) : IxR X (rIxTab d kvs) := by
  intro value slice pins s σ H x y v u Q I rx ry h hs
  obtain ⟨z, v0, rfl, rfl, hv, q⟩ := h
  obtain ⟨es, n, D⟩ := T.1
  obtain ⟨r, e, hr⟩ := T.2 z
  rw [hv] at hr
  obtain ⟨u0, rfl, r0⟩ := hr
  obtain rfl : v = Value.ref d := rx
  obtain ⟨t, rfl⟩ := (show ∃ t, u = Value.str (S z) t from ry)
  have hm := PySem.W.mapOf_K (prog := X.prog) (w := X.w) I.kIn D.at_ D.lit
  exact tail_any hm.typeIs PySem.slot_dict_getitem.lookup (wpAny_getItem_of (strKind_is X.prog X.w (S z) t) hm (PySem.W.find_K D.at_ e) ⟨v0, H, I.tok _, r0, q⟩) hs
end
theorem ns_absent {K : PySem.W.Frag} {Pm : Params} {a : Addr} {ks : List Str} (h : He.dicW K a = some (He.keysIn Pm ks)) {z : Str} (hz : z ∉ ks) : PySem.W.nsIn K a z = some none := by
  unfold He.dicW at h
  unfold PySem.W.nsIn
  cases q : K.lookup a with
  | none => rw [q] at h; cases h
  | some o =>
    obtain ⟨oc, od, dt, osl⟩ := o
    rw [q] at h
    cases oc with
    | type c =>
      cases od with
      | none =>
        cases dt with
        | dict es n =>
          simp only at h
          split at h
          · have h2 := Option.some.inj h
            have key : ∀ e ∈ es.toList, ∃ x t, e.key = .str x t ∧ x ∈ ks := fun e he => by
              have hm : He.keyOf e ∈ es.toList.map He.keyOf := List.mem_map.mpr ⟨e, he, rfl⟩
              rw [h2] at hm
              unfold He.keysIn at hm
              obtain ⟨k, hk, ek⟩ := List.mem_map.mp hm
              unfold He.keyOf at ek
              split at ek
              · rename_i x t qk
                have := Option.some.inj ek
                exact ⟨x, t, qk, by rw [← (Prod.mk.inj this).1]; exact hk⟩
              · cases ek
            have f1 : es.toList.find? (·.key.isStr z) = none := List.find?_eq_none.mpr fun e he => by
              obtain ⟨x, t, e1, e2⟩ := key e he
              rw [e1]
              show ¬ (x == z) = true
              intro e3
              exact hz ((eq_of_beq e3) ▸ e2)
            have f2 : es.toList.any (·.refKey) = false := List.any_eq_false.mpr fun e he => by
              obtain ⟨x, t, e1, e2⟩ := key e he
              unfold DictEntry.refKey
              rw [e1]
              exact Bool.false_ne_true
            simp only [f1, f2]
            rfl
          · cases h
        | _ => cases h
      | some b => cases dt <;> cases h
    | _ => cases od <;> cases dt <;> cases h
theorem saysT_keys {fa : List He.Fa} {fn : List He.DefD} {ts : List He.Tab} {w : World} {K : PySem.W.Frag} (c : He.SaysT fa fn ts w K) (i : Nat) {t : He.Tab} (h : ts[i]? = some t := by rfl) : He.dicW K (t.1 K) = some (He.keysIn w.params t.2) := by
  have e : ts.map (fun t => He.dicW K (t.1 K)) = ts.map fun t => some (He.keysIn w.params t.2) := congrArg (fun z : He.AlT => z.2) c
  have e2 : (ts.map fun t => He.dicW K (t.1 K))[i]? = (ts.map fun t => some (He.keysIn w.params t.2))[i]? := by rw [e]
  rw [List.getElem?_map, List.getElem?_map, h] at e2
  exact Option.some.inj e2
theorem S_mem {z : List Nat} {ks : List (List Nat)} (h : S z ∈ ks.map S) : z ∈ ks := by
  obtain ⟨k, hk, e⟩ := List.mem_map.mp h
  rw [← S_inj e]
  exact hk
theorem tab_ok {K : PySem.W.Frag} {w : World} {d : Addr} {kvs : List (List Nat × He.Dv)} (h1 : He.dicW K d = some (He.keysIn w.params (kvs.map fun q => S q.1))) (h2 : He.valsB K d (kvs.map fun q => (S q.1, q.2)) = true) :
    KTab K w d (kvs.map fun q => (q.1, q.2.v K)) := by
  refine ⟨He.dicW_ok h1, fun z => ?_⟩
  unfold lkp
  rw [List.find?_map]
  cases e : kvs.find? ((fun q : List Nat × V => decide (q.1 = z)) ∘ fun q : List Nat × He.Dv => (q.1, q.2.v K)) with
  | none =>
    refine ⟨none, ns_absent h1 fun hm => ?_, rfl⟩
    rw [show (kvs.map fun q => S q.1) = (kvs.map fun q => q.1).map S by rw [List.map_map]; rfl] at hm
    obtain ⟨q, hq, e2⟩ := List.mem_map.mp (S_mem hm)
    have := List.find?_eq_none.mp e q hq
    simp [e2] at this
  | some q =>
    have hq := List.mem_of_find?_eq_some e
    have hz := List.find?_some e
    have hz2 : q.1 = z := by simpa using hz
    obtain ⟨u, u1, u2⟩ := He.valsB_ok h2 (q := (S q.1, q.2)) (List.mem_map.mpr ⟨q, hq, rfl⟩)
    exact ⟨some u, by rw [← hz2]; exact u1, u, rfl, u2⟩
/-! ### x in a tuple of data -/
def rInDT (K : PySem.W.Frag) : R2 := fun x y H Q => ∃ d ds, Dp K H x d ∧ Dp K H y (.tuple ds) ∧ SeqAt.shaped d = true ∧ SeqAt.shaped (.tuple ds) = true ∧ d.depth ≤ 60 ∧ Q (.bl (ds.any fun z => PyData.eqv z d)) H
theorem op_inDT {X : Cx} (hu : X.A.units + 64 < cLine) : OpR X (compareOp .In) (rInDT X.K) := by
  intro pins s σ H x y v u Q I rx ry h
  obtain ⟨d, ds, hd, he, sd, se, hdep, q⟩ := h
  obtain ⟨as, r1⟩ := Dp.reads I d x v hd rx
  obtain ⟨bs, r2⟩ := Dp.reads I (.tuple ds) y u he ry
  exact SeqAt.in_tuple_reads r2 r1 (SeqAt.canLay_of_shaped se) (SeqAt.canLay_of_shaped sd) (by have := Nat.min_le_right (PyData.depthAll ds) d.depth; omega) ⟨.bl _, H, I, rfl, q⟩
/-- a loss in what twins tells -/
def TwsAt (H : Hp) (x : V) : Option (List Nat × List Nat) → Prop
  | none => ∃ p, x = .ref p ∧ H p = some (.tup [])
  | some y => ∃ p u, x = .ref p ∧ H p = some (.tup [.ref u]) ∧ H u = some (.tup [.str (S y.1), .str (S y.2)])
theorem TwsAt.same {H H' : Hp} {x : V} {o : Option (List Nat × List Nat)} (e : Same H H') (h : TwsAt H x o) : TwsAt H' x o := by
  cases o with
  | none =>
    obtain ⟨u, h1, h2⟩ := h
    exact ⟨u, h1, e _ _ h2⟩
  | some y =>
    obtain ⟨p, u, h1, h2, h3⟩ := h
    exact ⟨p, u, h1, e _ _ h2, e _ _ h3⟩
theorem shaped_tt {c d : List Nat} (oc : Wd c) (od : Wd d) : SeqAt.shaped (.tuple [.tuple [.str (S c), .str (S d)]]) = true := by
  unfold SeqAt.shaped
  simp only [PyData.canLay0, PyData.canLayAll0, ok_S oc, ok_S od, PyData.depth, PyData.depthAll]
  rfl
theorem shaped_t {c d : List Nat} (oc : Wd c) (od : Wd d) : SeqAt.shaped (.tuple [.str (S c), .str (S d)]) = true := by
  unfold SeqAt.shaped
  simp only [PyData.canLay0, PyData.canLayAll0, ok_S oc, ok_S od, PyData.depth, PyData.depthAll]
  rfl
theorem r_inTws {K : PySem.W.Frag} {H : Hp} {Q : VK} {y : V} {u : Addr} {o : Option (List Nat × List Nat)} {c d : List Nat} (h1 : SqT K H u [.str (S c), .str (S d)]) (h2 : TwsAt H y o) (ho : ∀ y, o = some y → Wd y.1 ∧ Wd y.2) (oc : Wd c) (od : Wd d)
    (q : Q (.bl (decide (o = some (c, d)))) H) : rInDT K (.ref u) y H Q := by
  cases o with
  | none =>
    obtain ⟨p, rfl, hp⟩ := h2
    refine ⟨.tuple [.str (S c), .str (S d)], [], .tup h1 (.cons (.str _) (.cons (.str _) .nil)), .tup (SqT.of hp) .nil, shaped_t oc od, rfl, by simp [PyData.depth, PyData.depthAll], ?_⟩
    rw [decide_eq_false (fun z => nomatch z)] at q
    exact q
  | some z =>
    obtain ⟨p, u', rfl, hp, hu⟩ := h2
    obtain ⟨w1, w2⟩ := ho z rfl
    refine ⟨.tuple [.str (S c), .str (S d)], [.tuple [.str (S z.1), .str (S z.2)]], .tup h1 (.cons (.str _) (.cons (.str _) .nil)), .tup (SqT.of hp) (.cons (.tup (SqT.of hu) (.cons (.str _) (.cons (.str _) .nil))) .nil), shaped_t oc od, shaped_tt w1 w2, by simp [PyData.depth, PyData.depthAll], ?_⟩
    have e : ([PyData.tuple [.str (S z.1), .str (S z.2)]].any fun x => PyData.eqv x (.tuple [.str (S c), .str (S d)])) = decide (some z = some (c, d)) := by
      simp only [List.any_cons, List.any_nil, Bool.or_false, PyData.eqv, PyData.eqvAll, Bool.and_true, S_beq, ← Bool.decide_and]
      exact decide_eq_decide.mpr ⟨fun e => congrArg some (Prod.ext e.1 e.2), fun e => ⟨congrArg Prod.fst (Option.some.inj e), congrArg Prod.snd (Option.some.inj e)⟩⟩
    rw [e]
    exact q
end Tf

set_option Elab.async false
set_option linter.all false
set_option maxRecDepth 100000
set_option maxHeartbeats 2000000
/-! the end of a law with tables of the top and lambdas, over k_head -/
namespace Tf
open PySem PySem.Spec PyProof.Rows L2 LamX
def ff (K : PySem.W.Frag) : PySem.W.Frag := K.filter fun q => !He.emptyTab q.2
theorem lookup_mem {K : PySem.W.Frag} {a : Addr} {o : Obj} (nd : (K.map (·.1)).Nodup) (h : (a, o) ∈ K) : K.lookup a = some o := by
  induction K with
  | nil => cases h
  | cons p r ih =>
    obtain ⟨b, x⟩ := p
    rw [List.map_cons, List.nodup_cons] at nd
    rcases List.mem_cons.mp h with e | e
    · cases e
      exact List.lookup_cons_self
    · have hb : a ≠ b := fun z => nd.1 (by rw [← z]; exact List.mem_map.mpr ⟨_, e, rfl⟩)
      rw [List.lookup_cons, show (a == b) = false from beq_eq_false_iff_ne.mpr hb]
      exact ih nd.2 e
theorem mem_lookup {K : PySem.W.Frag} {a : Addr} {o : Obj} (h : K.lookup a = some o) : (a, o) ∈ K := by
  induction K with
  | nil => cases h
  | cons p r ih =>
    obtain ⟨b, x⟩ := p
    rw [List.lookup_cons] at h
    split at h
    · rename_i e
      obtain rfl := eq_of_beq e
      cases h
      exact List.mem_cons_self
    · exact List.mem_cons_of_mem _ (ih h)
theorem ff_in {K : PySem.W.Frag} {h : Heap} (X : K.In h) (nd : (K.map (·.1)).Nodup) : (ff K).In h := fun a o e => X a o (lookup_mem nd (List.mem_filter.mp (mem_lookup e)).1)
theorem saysX_of_k {K : PySem.W.Frag} {h : Heap} {w : World} {fa : List He.Fa} {fn : List He.DefD} {ts : List He.Tab} {tf : List He.Defn} {ex : PySem.W.Frag → Bool} (X : K.In h) (nd : decide ((K.map (·.1)).Nodup) = true) (t : He.obsT fa fn ts (ff K) = He.valT fn ts w) (m : ex (ff K) = true)
    (hd : tf.all (fun p => PySem.W.codeHdIn (ff K) (He.cT (ff K) p).1 (He.cT (ff K) p).2) = true) (out : tf.all (fun p => ((ff K).lookup (He.cT (ff K) p).2).isNone) = true)
    (em : tf.all (fun p => match K.lookup (He.cT (ff K) p).2 with | some o => He.emptyTab o | none => false) = true) : ∃ K' : PySem.W.Frag, K'.In h ∧ He.SaysX fa fn ts tf ex w h K' := by
  refine ⟨ff K, ff_in X (of_decide_eq_true nd), t, m, fun p hp => List.all_eq_true.mp hd p hp, fun p hp => Option.isNone_iff_eq_none.mp (List.all_eq_true.mp out p hp), fun p hp => ?_⟩
  have e := List.all_eq_true.mp em p hp
  cases q : K.lookup (He.cT (ff K) p).2 with
  | none =>
    simp only [q] at e
    cases e
  | some o =>
    simp only [q] at e
    rw [X _ _ q, He.emptyTab_eq e]
theorem saysX_of_km {K : PySem.W.Frag} {h : Heap} {w : World} {fa : List He.Fa} {fn : List He.DefD} {ts : List He.Tab} {tf : List He.Defn} {ex : PySem.W.Frag → Bool} {ps : List Addr} (X : K.In h) (tb : ∀ P ∈ ps, h.get? P = some (PySem.W.tabObj #[])) (t : He.obsT fa fn ts K = He.valT fn ts w) (m : ex K = true)
    (hd : tf.all (fun p => PySem.W.codeHdIn K (He.cT K p).1 (He.cT K p).2) = true) (out : tf.all (fun p => (K.lookup (He.cT K p).2).isNone) = true)
    (em : tf.all (fun p => decide ((He.cT K p).2 ∈ ps)) = true) : ∃ K' : PySem.W.Frag, K'.In h ∧ He.SaysX fa fn ts tf ex w h K' :=
  ⟨K, X, t, m, fun p hp => List.all_eq_true.mp hd p hp, fun p hp => Option.isNone_iff_eq_none.mp (List.all_eq_true.mp out p hp), fun p hp => tb _ (of_decide_eq_true (List.all_eq_true.mp em p hp))⟩
theorem walk_ofGT {l : PySem.W.OpenLaw} {n k : Nat} {q : Program} {loose : List Str} {XP : (Str → Option Value) → Heap → Prop} {YP : World → Heap → Prop} {d : DefRec} {x : Str} {st : Stmt} {tf : List He.Defn} {fl : List He.Fa} {fn : List He.DefD} {ts : List He.Tab} {ex : PySem.W.Frag → Bool} {sp : PySem.W.Frag → Sp}
    (hn : l.most = some n) (hn2 : n ≤ sizeLine) (hdf : d.params.defaults = []) (hr : Room k callerA) (hY : ∀ (w : World) (h : Heap), YP w h → ∃ K : PySem.W.Frag, K.In h ∧ He.SaysX fl fn ts tf ex w h K)
    (hb : ∀ {K : PySem.W.Frag} {f : Addr} {fd : FuncData}, FnP K d.name st f fd → ∀ (s : Shared) (u : Value), BindsTo s fd ⟨[u], []⟩ [(x, u)])
    (hsp : ∀ (K : PySem.W.Frag) (H : Hp) (a : Addr) (ns : List Int), ns.length ≤ n → Tabs (tabs K tf) H → SqL K H a (ns.map V.int) → sp K [.ref a] H (fun v _ => v = .bl true) E0)
    (F : ∀ (w : World) (mg : Str → Option Value) (h : Heap) (K : PySem.W.Frag), K.In h → He.SaysX fl fn ts tf ex w h K → h.Ns mainGlobals mg → ∀ base : Heap, K.In base → base.Ns mainGlobals mg → TBs K mg base tf → OkG l.prog w K mg base k d.name st [x] (sp K)) :
    PySem.W.WalkO q loose XP YP l.row.toRowW d [] (fun f vs => PySem.call f vs) := by
  refine Att.attach_callB hn hdf fun w s₀ s₁ mg mb fa o pm cd doc a vs ns G Y ho hd hcd hmg hobj hints hlen hbits hg => ?_
  obtain ⟨K, KX, c⟩ := hY w _ Y
  have fw : ∀ {φ : Addr × Addr → Prop}, (∀ p ∈ tf, φ (He.cT K p)) → ∀ q ∈ tf.map (He.cT K), φ q := fun h q hq => by
    obtain ⟨p, hp, rfl⟩ := List.mem_map.mp hq
    exact h p hp
  refine bottomed KX G.T.g G.T.b G.T.builtins G.T.nolimit hg (fw c.empty) (fw c.out) (fw fun p hp => PySem.W.codeHd_of_K KX (c.hd p hp)) G.T.bmain hobj hints (Nat.le_trans hlen hn2) fun base H B => ?_
  have hT : TBs K mg base tf := fun p hp => B.tabs _ (List.mem_map.mpr ⟨p, hp, rfl⟩)
  obtain ⟨f, fd, gg, D, b, len, run⟩ := (F w mg _ K KX c G.T.g base B.env.mod.kin B.env.mod.glob hT).ex
  rw [hmg] at gg
  cases gg
  have tb : Tabs (tabs K tf) H := fun r hr => by
    obtain ⟨p, hp, rfl⟩ := List.mem_map.mp hr
    exact TabS.nil (B.emp _ (List.mem_map.mpr ⟨p, hp, rfl⟩))
  exact run callerA [] s₁ H ⟨[.ref a], []⟩ [.ref a] [.ref a] _ _ rfl hr B.env (hb D s₁ (.ref a)) (.cons rfl .nil) (hsp K H a ns hlen tb B.scr)
end Tf

set_option Elab.async false
set_option linter.all false
set_option maxRecDepth 100000
set_option maxHeartbeats 2000000
/-! slices with a step, of lists; enumerate(text, start=k) -/
namespace Tf
open PySem PySem.Spec PyProof.Rows L2
def pickV (xs : List V) (lo hi st : Option Int) : List V :=
  (sliceRange (sliceBounds lo hi st xs.length).1 (sliceBounds lo hi st xs.length).2.1 (sliceBounds lo hi st xs.length).2.2).filterMap fun x => xs[x]?
theorem filter_vals {xs : List V} {its : List Value} (h : Vals xs its) : ∀ r : List Nat, Vals (r.filterMap fun x => xs[x]?) (r.filterMap fun x => its[x]?)
  | [] => .nil
  | i :: r => by
    cases e : xs[i]? with
    | none =>
      rw [List.filterMap_cons_none e, List.filterMap_cons_none (h.none_of e)]
      exact filter_vals h r
    | some x =>
      obtain ⟨u, hu, hr⟩ := h.get e
      rw [List.filterMap_cons_some e, List.filterMap_cons_some hu]
      exact .cons hr (filter_vals h r)
theorem pick_vals {xs : List V} {its : List Value} (h : Vals xs its) (lo hi st : Option Int) : slicePick its.toArray lo hi st = ((sliceRange (sliceBounds lo hi st xs.length).1 (sliceBounds lo hi st xs.length).2.1 (sliceBounds lo hi st xs.length).2.2).filterMap fun x => its[x]?).toArray := by
  rw [slicePick.eq_1, List.size_toArray, h.length]
  congr 2
  funext x
  exact List.getElem?_toArray
def tSlS (K : PySem.W.Frag) (te : TE) (tl th ts : L2.TO) : TE := fun σ H Q => te σ H fun x H1 => tl σ H1 fun lo H2 => th σ H2 fun hi H3 => ts σ H3 fun st H4 =>
  ∃ a xs, x = .ref a ∧ SqL K H4 a xs ∧ st ≠ some 0 ∧ ∀ p, H4 p = none → Q (.ref p) (upd H4 p (.lst (pickV xs lo hi st)))
theorem pe_sliceS {X : Cx} {e : Expr} {te : TE} {l u : Option Expr} {st : Expr} {tl th ts : L2.TO} {p3 pos : Pos} (he : PE X e te) (hl : PO X l tl) (hh : PO X u th) (hs : PO X (some st) ts) :
    PE X (.Subscript e (.Slice l u (some st) p3) pos) (tSlS X.K te tl th ts) := by
  refine ⟨fun pins s σ H Q I h => ?_⟩
  refine Subscript_ (thn (he.run pins s σ H _ I h) fun v s1 ⟨x, H1, I1, r1, q1⟩ => ?_)
  refine wpAny_Slice (thn (hl.run pins s1 σ H1 _ I1 q1) fun vl s2 ⟨lo, H2, I2, pl, q2⟩ => ?_)
  refine thn (hh.run pins s2 σ H2 _ I2 q2) fun vu s3 ⟨hi, H3, I3, pu, q3⟩ => ?_
  refine thn (hs.run pins s3 σ H3 _ I3 q3) fun vs s4 ⟨o, H4, I4, ps, a, xs, ex, hx, hn, q⟩ => ?_
  subst ex
  cases r1
  have I5 : Inv X pins σ H4 { s4 with heap := s4.heap.push { cls := .type "slice", data := .fields #[vl, vu, vs] } } := I4.kept (t' := s4.toks) fun b ob q => Heap.get?_push_of_some _ q
  obtain ⟨its, r, ht, hz⟩ := I5.list hx
  have hlen := r.length
  refine tail_any (ops := [.ref a, .ref s4.heap.objs.size]) ht.isList.typeIs (slot_list_getitem.lookup) ?_ (by with_unfolding_all rfl)
  refine wpAny_getItem_list_slice ht.isList (Heap.IsSliceOf.new _ vl vu vs) pl pu ps hn ?_ (by rw [List.size_toArray]; omega)
  rw [pick_vals r]
  have hp : (pickV xs lo hi o).length ≤ sizeLine := by
    have h1 := slicePick_size_le its.toArray lo hi o
    rw [pick_vals r, List.size_toArray, List.size_toArray, ← (filter_vals r _).length] at h1
    show (List.filterMap _ _).length ≤ _
    omega
  refine ⟨.ref _, _, I5.laid (t' := s4.toks) (o := .lst (pickV xs lo hi o)) (fun b ob q => Heap.get?_push_of_some _ q) (Nat.le_refl _) ?_, rfl, q _ (I5.hok.fresh (Nat.le_refl _))⟩
  exact ⟨hp, _, 0, filter_vals r _, Heap.get?_push_size _ rfl⟩
/-- enumerate(text, start=k0) -/
def ItEX (k0 : Int) (x : Str) : It where
  go i _ := i < x.cps.size
  yld i H v H' := ∃ T c, v = .ref T ∧ H T = none ∧ H' = upd H T (.tup [.int (k0 + i), .str ⟨#[c]⟩]) ∧ x.cps[i]? = some c
  stop i _ := x.cps.size ≤ i
theorem turn_enumX {P : Program} {w : World} {K : PySem.W.Frag} {elts : List Expr} {kk : Nat} {tpos : Pos} (k0 : Int) (x : Str) (t : Tok) (e it : Addr) (ne : e ≠ it) :
    Turn P w K (.Tuple elts kk tpos) (ItEX k0 x) [e, it] e (fun i h => i ≤ x.cps.size ∧ (∃ old, IsEnum h e it (k0 + i) old) ∧ h.IsStrIter it (strIterType x) x t i) where
  mem := by simp
  obj := fun i h ⟨_, ⟨old, h1⟩, o, h2, _, h3⟩ b hb => by
    simp only [List.mem_cons, List.not_mem_nil, or_false] at hb
    rcases hb with rfl | rfl
    · exact ⟨_, h1, fun v z => by cases z⟩
    · exact ⟨_, h2, fun v z => by rw [h3] at z; cases z⟩
  keep := fun i h h' ⟨hi, ⟨old, h1⟩, o, h2, h3⟩ hk => ⟨hi, ⟨old, hk _ (by simp) _ h1⟩, o, hk _ (by simp) _ h2, h3⟩
  item := fun X hP hw hK hc i pins s σ H E I hf ht hg => by
    subst hP hw hK
    have G := GoesN.enumFrom (prog := X.prog) (w := X.w) (A := X.A) (elts := elts) (x1 := kk) (pos := tpos) k0 (Draws.text (A := X.A.in1) (I.ok.hd hc) it x t) e ne (by simpa using ne) (by simp)
    refine G.goes i s _ E hg ht.2 fun v h' tk hY hS hk htk => ?_
    obtain ⟨T, t2, u, rfl, hT, ⟨c, u2, hc2, rfl⟩, hI⟩ := hY
    have hfree : H T = none := I.hok.fresh hT
    refine ⟨.ref T, upd H T (.tup [.int (k0 + i), .str ⟨#[c]⟩]), ?_, rfl, ⟨T, c, rfl, hfree, rfl, hc2⟩, ⟨hg, hS⟩, fun b hb => ?_⟩
    · refine I.turnedNew (ch := [e, it]) hk hf hT ?_
      exact ⟨by simp [sizeLine], _, .cons ⟨_, rfl⟩ (.cons ⟨_, rfl⟩ .nil), hI⟩
    · have hb2 : b < s.heap.objs.size := by
        obtain ⟨_, ⟨old, h1⟩, o, h2, _⟩ := ht
        simp only [List.mem_cons, List.not_mem_nil, or_false] at hb
        rcases hb with rfl | rfl
        · exact Heap.lt_size h1
        · exact Heap.lt_size h2
      rw [upd_ne (Nat.ne_of_lt (Nat.lt_of_lt_of_le hb2 hT))]
      exact (hf b hb).1
  done := fun X hP hw hK hc i pins s σ H E I hf ht hs => by
    subst hP hw hK
    have G := GoesN.enumFrom (prog := X.prog) (w := X.w) (A := X.A) (elts := elts) (x1 := kk) (pos := tpos) k0 (Draws.text (A := X.A.in1) (I.ok.hd hc) it x t) e ne (by simpa using ne) (by simp)
    obtain rfl : i = x.cps.size := Nat.le_antisymm ht.1 hs
    exact G.stops s _ E ht.2 fun h' tk hk htk => I.turnedL hk hf
  self := fun A i s Q E ht q => by
    obtain ⟨_, ⟨old, h1⟩, _⟩ := ht
    exact wpAny_pyIter_enum h1 q
theorem callWith_type_kw {M : Model} {A : Around} {E : Value → Shared → Prop} {s : Shared} {pos : Pos} {T : String} {first : List Value} {args : List (Bool × Sem Value)} {keywords : List (Option Str × Sem Value)} {Q : Value → Shared → Prop}
    (hp : (args.any (·.1) || keywords.any (·.1.isNone)) = false) (h : wpAny M A (evalArgs (.type T) true args keywords) (fun a s1 => wpAny M A (call (.type T) (first ++ a.pos) a.kw) Q E s1) E s) :
    wpAny M A (callWith pos (.type T) first args keywords) Q E s := by
  unfold callWith
  refine wpAny_bind (wpAny_holding (thn h fun a s1 h1 => ?_))
  refine wpAny_bind (wpAny_standAt ?_)
  rw [hp]
  refine wpAny_bind (wpAny_pure ?_)
  refine wpAny_bind (thn h1 fun v s2 q => ?_)
  exact wpAny_bind (wpAny_holding (wpAny_point (wpAny_pure q)))
/-- enumerate(text, start=k0) -/
def iEnX (K : PySem.W.Frag) (ta tk : TA) : TI := fun σ H R => ta σ H fun vs H1 => tk σ H1 fun zs H2 => ∃ x k, vs = [.str x] ∧ zs = [.int k] ∧ -2 ^ 63 ≤ k ∧ k < 2 ^ 63 ∧ R (ItEX k x) H2
theorem pi_enumX {X : Cx} {e : Expr} {kws : List Keyword} {ta tk : TA} {p pos tpos : Pos} {elts : List Expr} {kk : Nat} (hg : Gl X "enumerate") (hm : X.mg "enumerate" = none) (ha : PA X [e] ta) (hk : PK X kws tk)
    (hall : (backToKw pos (keywordEach kws X.env)).all (·.1.isSome) = true := by rfl) (hks : (backToKw pos (keywordEach kws X.env)).filterMap (·.1) = [("start" : Str)] := by rfl)
    (hpl : ((backTo pos (starEach [e] X.env)).any (·.1) || (backToKw pos (keywordEach kws X.env)).any (·.1.isNone)) = false := by rfl)
    (hst : starEach [e] X.env = [(false, eval e X.env)] := by rfl) :
    PI X (.Tuple elts kk tpos) (.Call (.Name "enumerate" p) [e] kws pos) (iEnX X.K ta tk) := by
  refine ⟨fun pins s σ H R I h => ?_⟩
  refine wpAny_Call_Name_kw (ld_blt (u := .type "enumerate") I hg hm (by rfl) ?_)
  refine callWith_type_kw hpl (PyProof.Rows.evalArgs_kw2 hall ?_ hst)
  refine thn (ha.run pos pins s σ H _ I h) fun us s1 ⟨vs, H1, I1, r1, q1⟩ => ?_
  refine thn (hk.run pos pins s1 σ H1 _ I1 q1) fun ws s2 ⟨zs, H2, I2, r2, x, k, ev, ez, k1, k2, q⟩ => ?_
  subst ev ez
  rw [hks]
  obtain ⟨u, rfl, t, rfl⟩ := r1.one
  obtain ⟨u2, rfl, t2, rfl⟩ := r2.one
  refine enum_begins_start (begins_text x t) trivial k1 k2 fun h' hE hI hsz hk2 => ?_
  refine wpAny_pyIter_enum hE ?_
  have Hf : ∀ b, s2.heap.objs.size ≤ b → H2 b = none := fun b hb => I2.hok.fresh hb
  have ne : s2.heap.objs.size + 1 ≠ s2.heap.objs.size := Nat.succ_ne_self _
  refine ⟨_, [s2.heap.objs.size + 1, s2.heap.objs.size], _, _, H2, rfl, I2.kept (t' := s2.toks) hk2, turn_enumX k x t _ _ ne, ⟨Nat.zero_le _, ⟨_, by simpa using hE⟩, ⟨_, hI, rfl, rfl⟩⟩, fun b hb => ?_, q⟩
  simp only [List.mem_cons, List.not_mem_nil, or_false] at hb
  rcases hb with rfl | rfl
  · exact I2.fpOk (by omega) (Hf _ (by omega))
  · exact I2.fpOk (by omega) (Hf _ (by omega))
/-- zip(text, list) -/
def ItZX (K : PySem.W.Frag) (x : Str) (a : Addr) : It where
  go i H := i < x.cps.size ∧ ∃ ys y, SqL K H a ys ∧ ys[i]? = some y
  yld i H v H' := ∃ T c y, v = .ref T ∧ H T = none ∧ H' = upd H T (.tup [.str ⟨#[c]⟩, y]) ∧ x.cps[i]? = some c ∧ ∀ ys, SqL K H a ys → ys[i]? = some y
  stop i H := ∃ ys, SqL K H a ys ∧ i = min x.cps.size ys.length
structure Apart5 (z TI TO i1 i2 : Addr) : Prop where
  h1 : TI ≠ z
  h2 : TO ≠ z
  h3 : TI ≠ TO
  h4 : TI ≠ i1
  h5 : TI ≠ i2
  h6 : z ≠ i1
  h7 : z ≠ i2
  h8 : TO ≠ i1
  h9 : TO ≠ i2
  h10 : i1 ≠ i2
theorem zsep {h : Heap} {z TI TO i1 i2 a : Addr} {x : Str} {t : Tok} {i : Nat} {its : Array Value} {ty : String} (A : Apart5 z TI TO i1 i2) (hz : IsZip h z TI TO .none) (hT : ∃ a1 a2, IsTupOf2 h TO a1 a2) (hi : h.IsStrIter i1 (strIterType x) x t i) (hl : h.IsList a its) : ZipSep2 z TI TO i1 i2 [i1] [i2, a] := by
  obtain ⟨o, e, ec, _⟩ := hl
  have n1 : a ≠ z := fun q => by subst q; rw [hz] at e; cases e; exact absurd (Value.type.inj ec) (by decide)
  have n2 : a ≠ TO := fun q => by
    subst q
    obtain ⟨a1, a2, h2⟩ := hT
    rw [h2] at e; cases e; exact absurd (Value.type.inj ec) (by decide)
  have n3 : a ≠ i1 := fun q => by
    subst q
    obtain ⟨o2, h2, h3, _⟩ := hi
    rw [h2] at e
    cases e
    rw [ec] at h3
    unfold strIterType at h3
    split at h3 <;> exact absurd (Value.type.inj h3) (by decide)
  exact ⟨A.h1, A.h2, A.h3, A.h4, by simp, by simpa using A.h6, by simpa using A.h8, A.h5, by simp, by simpa using ⟨A.h7, n1.symm⟩, by simpa using ⟨A.h9, n2.symm⟩, by simpa using ⟨A.h10, n3.symm⟩, by simpa using A.h10.symm⟩
abbrev ZipX (x : Str) (t : Tok) (a z TI TO i1 i2 : Addr) (i : Nat) (h : Heap) : Prop := IsZip h z TI TO .none ∧ IsTupOf2 h TI (.ref i1) (.ref i2) ∧ (∃ a1 a2, IsTupOf2 h TO a1 a2) ∧ h.IsStrIter i1 (strIterType x) x t i ∧ h.IsListIter i2 a i
theorem turn_zipX {P : Program} {w : World} {K : PySem.W.Frag} {elts : List Expr} {kk : Nat} {tpos : Pos} (x : Str) (t : Tok) (a z TI TO i1 i2 : Addr) (A5 : Apart5 z TI TO i1 i2) :
    Turn P w K (.Tuple elts kk tpos) (ItZX K x a) [z, TI, TO, i1, i2] z (ZipX x t a z TI TO i1 i2) where
  mem := by simp
  obj := fun i h ⟨h1, h2, ⟨_, _, h3⟩, ⟨_, h4, _, h5⟩, ⟨_, h6, _, h7⟩⟩ b hb => by
    simp only [List.mem_cons, List.not_mem_nil, or_false] at hb
    rcases hb with rfl | rfl | rfl | rfl | rfl
    · exact ⟨_, h1, fun v z => by cases z⟩
    · exact ⟨_, h2, fun v z => by cases z⟩
    · exact ⟨_, h3, fun v z => by cases z⟩
    · exact ⟨_, h4, fun v z => by rw [h5] at z; cases z⟩
    · exact ⟨_, h6, fun v z => by rw [h7] at z; cases z⟩
  keep := fun i h h' ⟨h1, h2, ⟨_, _, h3⟩, ⟨_, h4, h5⟩, ⟨_, h6, h7⟩⟩ hk => ⟨hk _ (by simp) _ h1, hk _ (by simp) _ h2, ⟨_, _, hk _ (by simp) _ h3⟩, ⟨_, hk _ (by simp) _ h4, h5⟩, ⟨_, hk _ (by simp) _ h6, h7⟩⟩
  item := fun X hP hw hK hc i pins s σ H E I hf ht hg => by
    subst hP hw hK
    obtain ⟨h1, h2, h3, h4, h5⟩ := ht
    obtain ⟨hg, ys, y, hy, hyi⟩ := hg
    obtain ⟨its, r, hl, _⟩ := I.list hy
    have Z := zsep (ty := "") A5 h1 h3 h4 hl.isList
    have G := GoesN.zip2 (prog := X.prog) (w := X.w) (A := X.A) (elts := elts) (x1 := kk) (pos := tpos) Z (Draws.text (A := X.A.in1) (I.ok.hd hc) i1 x t) (Draws.list (A := X.A.in1) (I.ok.hd hc) i2 a (by have := Z.sep2_1; intro q; subst q; obtain ⟨o, e, ec, _⟩ := h5; obtain ⟨o2, e2, ec2, _⟩ := hl.isList; rw [e] at e2; cases e2; rw [ec] at ec2; exact absurd (Value.type.inj ec2) (by decide)) its.toArray)
    have hlen : i < its.toArray.size := by
      rw [List.size_toArray, ← r.length]
      exact (List.getElem?_eq_some_iff.mp hyi).1
    refine G.goes i s _ E (by omega) ⟨h1, h2, h3, h4, h5, hl.isList⟩ fun v h' tk hY hS hk htk => ?_
    obtain ⟨T, u, v2, rfl, hT, ⟨c, u2, hc2, rfl⟩, hv2, hI⟩ := hY
    have hfree : H T = none := I.hok.fresh hT
    obtain ⟨v3, e3, r3⟩ := r.get hyi
    have e4 : its.toArray[i]? = some v3 := by rw [List.getElem?_toArray]; exact e3
    obtain rfl : v2 = v3 := Option.some.inj (hv2.symm.trans e4)
    refine ⟨.ref T, upd H T (.tup [.str ⟨#[c]⟩, y]), ?_, rfl, ⟨T, c, y, rfl, hfree, rfl, hc2, fun ys2 hy2 => ?_⟩, ⟨hS.1, hS.2.1, hS.2.2.1, hS.2.2.2.1, hS.2.2.2.2.1⟩, fun b hb => ?_⟩
    · refine I.turnedNew (ch := [z, TO, i1, i2]) hk (fun b hb => hf b (by simp only [List.mem_cons, List.not_mem_nil, or_false] at hb ⊢; rcases hb with q | q | q | q <;> simp [q])) hT ?_
      exact ⟨by simp [sizeLine], _, .cons ⟨_, rfl⟩ (.cons r3 .nil), hI⟩
    · obtain ⟨its2, r2, hl2, _⟩ := I.list hy2
      obtain ⟨o, e, _, n, ed⟩ := hl.isList
      obtain ⟨o2, e2, _, n2, ed2⟩ := hl2.isList
      rw [e] at e2
      cases e2
      rw [ed] at ed2
      have e5 : its = its2 := by
        have := (Data.seq.inj ed2).1
        exact Array.mk.inj this
      subst e5
      rw [r2.inj r]
      exact hyi
    · have hb2 : b < s.heap.objs.size := by
        obtain ⟨_, _, h3⟩ := h3
        obtain ⟨_, h4, _⟩ := h4
        obtain ⟨_, h5, _⟩ := h5
        simp only [List.mem_cons, List.not_mem_nil, or_false] at hb
        rcases hb with rfl | rfl | rfl | rfl | rfl
        · exact Heap.lt_size h1
        · exact Heap.lt_size h2
        · exact Heap.lt_size h3
        · exact Heap.lt_size h4
        · exact Heap.lt_size h5
      rw [upd_ne (Nat.ne_of_lt (Nat.lt_of_lt_of_le hb2 hT))]
      exact (hf b hb).1
  done := fun X hP hw hK hc i pins s σ H E I hf ht hs => by
    subst hP hw hK
    obtain ⟨h1, h2, h3, h4, h5⟩ := ht
    obtain ⟨ys, hy, e⟩ := hs
    obtain ⟨its, r, hl, _⟩ := I.list hy
    have Z := zsep (ty := "") A5 h1 h3 h4 hl.isList
    have G := GoesN.zip2 (prog := X.prog) (w := X.w) (A := X.A) (elts := elts) (x1 := kk) (pos := tpos) Z (Draws.text (A := X.A.in1) (I.ok.hd hc) i1 x t) (Draws.list (A := X.A.in1) (I.ok.hd hc) i2 a (by have := Z.sep2_1; intro q; subst q; obtain ⟨o, e, ec, _⟩ := h5; obtain ⟨o2, e2, ec2, _⟩ := hl.isList; rw [e] at e2; cases e2; rw [ec] at ec2; exact absurd (Value.type.inj ec2) (by decide)) its.toArray)
    have e1 : its.toArray.size = ys.length := by rw [List.size_toArray, r.length]
    have e2 : i = min x.cps.size its.toArray.size := by rw [e1]; exact e
    subst e2
    exact G.stops s _ E ⟨h1, h2, h3, h4, h5, hl.isList⟩ fun h' tk hk htk => I.turnedL hk (fun b hb => hf b (by simp only [List.mem_cons, List.not_mem_nil, or_false] at hb ⊢; rcases hb with q | q | q | q <;> simp [q]))
  self := fun A i s Q E ht q => wpAny_pyIter_zip ht.1 q
def iZipX (K : PySem.W.Frag) (ta : TA) : TI := fun σ H R => ta σ H fun vs H1 => ∃ x a ys, vs = [.str x, .ref a] ∧ SqL K H1 a ys ∧ R (ItZX K x a) H1
theorem pi_zipX {X : Cx} {e e2 : Expr} {ta : TA} {p pos tpos : Pos} {elts : List Expr} {kk : Nat} (hg : Gl X "zip") (hm : X.mg "zip" = none) (ha : PA X [e, e2] ta)
    (hpl : ((backTo pos (starEach [e, e2] X.env)).any (·.1)) = false := by rfl)
    (hst : starEach [e, e2] X.env = (false, eval e X.env) :: starEach [e2] X.env := by rfl) :
    PI X (.Tuple elts kk tpos) (.Call (.Name "zip" p) [e, e2] [] pos) (iZipX X.K ta) := by
  refine ⟨fun pins s σ H R I h => ?_⟩
  refine wpAny_Call_NameR (ld_blt (u := .type "zip") I hg hm (by rfl) ?_)
  refine PyProof.Rows.callWith_type hpl (L2.FK.evalArgs_any hpl ?_)
  refine thn (ha.run pos pins s σ H _ I h) fun us s2 ⟨vs, H2, I2, r1, x, a, ys, ev, hy, q⟩ => ?_
  subst ev
  obtain ⟨u, u2, rfl, ⟨t, rfl⟩, rfl⟩ := r1.two
  obtain ⟨its, r, hl, _⟩ := I2.list hy
  refine zip_begins2 (begins_text x t) (begins_list a its.toArray) trivial hl.isList fun h' h1 h2 h3 h4 h5 hsz hk2 => ?_
  refine wpAny_pyIter_zip h1 ?_
  have Hf : ∀ b, s2.heap.objs.size ≤ b → H2 b = none := fun b hb => I2.hok.fresh hb
  have A5 : ∀ N : Nat, Apart5 (N + 4) (N + 2) (N + 3) N (N + 1) := fun N =>
    have f : ∀ {i j : Nat}, i ≠ j → (N + i ≠ N + j) := fun h q => h (Nat.add_left_cancel q)
    ⟨f (by decide), f (by decide), f (by decide), f (j := 0) (by decide), f (by decide), f (j := 0) (by decide), f (by decide), f (j := 0) (by decide), f (by decide), f (i := 0) (by decide)⟩
  refine ⟨_, _, _, _, H2, rfl, I2.kept (t' := s2.toks) hk2, turn_zipX x t a _ _ _ _ _ (A5 s2.heap.objs.size), ⟨h1, h2, ⟨_, _, h3⟩, ⟨_, h4, rfl, rfl⟩, ⟨_, h5, rfl, rfl⟩⟩, fun b hb => ?_, q⟩
  simp only [List.mem_cons, List.not_mem_nil, or_false] at hb
  rcases hb with rfl | rfl | rfl | rfl | rfl <;> exact I2.fpOk (by first | exact Nat.le_add_right _ _ | exact Nat.le_refl _) (Hf _ (by first | exact Nat.le_add_right _ _ | exact Nat.le_refl _))
end Tf

set_option Elab.async false
set_option linter.all false
set_option maxRecDepth 100000
set_option maxHeartbeats 2000000
/-! laws as the statements keep them: a list of (name, is it often, ways), ways a dict by the three fates -/
namespace Tf
open PySem PySem.Spec PyProof.Rows L2
theorem paired_get {α β : Type} {F : α → β → Prop} {l : List α} {m : List β} (h : Paired F l m) : ∀ {i : Nat} {y : β}, m[i]? = some y → ∃ x, l[i]? = some x ∧ F x y := by
  induction h with
  | nil => intro i y e; simp at e
  | cons hf _ ih =>
    intro i y e
    cases i with
    | zero => exact ⟨_, rfl, by simp at e; subst e; exact hf⟩
    | succ i => simp only [List.getElem?_cons_succ] at e ⊢; exact ih e
theorem paired_getL {α β : Type} {F : α → β → Prop} {l : List α} {m : List β} (h : Paired F l m) : ∀ {i : Nat} {x : α}, l[i]? = some x → ∃ y, m[i]? = some y ∧ F x y := by
  induction h with
  | nil => intro i y e; simp at e
  | cons hf _ ih =>
    intro i y e
    cases i with
    | zero => exact ⟨_, rfl, by simp at e; subst e; exact hf⟩
    | succ i => simp only [List.getElem?_cons_succ] at e ⊢; exact ih e
theorem Same.sql {K : PySem.W.Frag} {H H1 : Hp} (e : Same H H1) {b : Addr} {xs : List V} (h : SqL K H b xs) : SqL K H1 b xs := by
  rcases h with (h | ⟨o, h⟩) | h
  · exact .inl (.inl (e _ _ h))
  · exact .inl (.inr ⟨o, e _ _ h⟩)
  · exact .inr h
theorem take_snoc' {α : Type} {l : List α} {i : Nat} {x : α} (h : l[i]? = some x) : l.take (i + 1) = l.take i ++ [x] := by
  rw [List.take_add_one, h]; rfl
structure Row3 where
  nm : List Nat
  oft : Bool
  way : Nat → List Nat
def wK (w : Nat → List Nat) : List (Key × V) := [(.inr (S [110]), .str (S (w 110))), (.inr (S [102]), .str (S (w 102))), (.inr (S [115]), .str (S (w 115)))]
def RowAt (K : PySem.W.Frag) (H : Hp) (r : Row3) (t : Addr) : Prop := ∃ d, SqT K H t [.str (S r.nm), .bl r.oft, .ref d] ∧ H d = some (.dK (wK r.way))
def OwnAt (K : PySem.W.Frag) (H : Hp) (a : Addr) (rs : List Row3) : Prop := ∃ ts : List Addr, SqL K H a (ts.map V.ref) ∧ Paired (RowAt K H) rs ts
def WRow (H : Hp) (r : Row3) (kv : Key × V) : Prop := ∃ d, kv = (.inr (S r.nm), .ref d) ∧ H d = some (.dK (wK r.way))
def WaysAt (H : Hp) (p : Addr) (rs : List Row3) : Prop := ∃ kvs, H p = some (.dK kvs) ∧ Paired (WRow H) rs kvs
section
variable {K : PySem.W.Frag} {H H1 : Hp} {r : Row3} {t a : Addr} {rs : List Row3}
theorem RowAt.same (e : Same H H1) (h : RowAt K H r t) : RowAt K H1 r t := by
  obtain ⟨d, h1, h2⟩ := h
  exact ⟨d, Same.sqt e h1, e _ _ h2⟩
theorem OwnAt.same (e : Same H H1) (h : OwnAt K H a rs) : OwnAt K H1 a rs := by
  obtain ⟨ts, h1, h2⟩ := h
  exact ⟨ts, Same.sql e h1, h2.mono fun _ _ h => h.same e⟩
theorem WRow.same {kv : Key × V} (e : Same H H1) (h : WRow H r kv) : WRow H1 r kv := by
  obtain ⟨d, h1, h2⟩ := h
  exact ⟨d, h1, e _ _ h2⟩
theorem WaysAt.same (e : Same H H1) (h : WaysAt H a rs) : WaysAt H1 a rs := by
  obtain ⟨kvs, h1, h2⟩ := h
  exact ⟨kvs, e _ _ h1, h2.mono fun _ _ h => h.same e⟩
def rowOf (rs : List Row3) (nm : List Nat) : Option Row3 := rs.find? fun r => decide (r.nm = nm)
def toF (rs : List Row3) (s : List Nat) (c : Nat) : List Nat := ((rowOf rs s).map fun r => r.way c).getD []
theorem valV_cons {κ : Type} [DecidableEq κ] {k q : κ} {v : V} {kvs : List (κ × V)} : valV ((k, v) :: kvs) q = if k = q then some v else valV kvs q := by
  unfold valV
  rw [List.find?_cons]
  by_cases h : k = q
  · simp [h]
  · simp [h]
theorem ways_get {kvs : List (Key × V)} (h : Paired (WRow H) rs kvs) {nm : List Nat} {r : Row3} (e : rowOf rs nm = some r) : ∃ d, valV kvs (.inr (S nm)) = some (.ref d) ∧ H d = some (.dK (wK r.way)) := by
  induction h with
  | nil => cases e
  | @cons r0 kv rs kvs hf _ ih =>
    obtain ⟨d, rfl, hd⟩ := hf
    unfold rowOf at e
    rw [List.find?_cons] at e
    rw [valV_cons]
    by_cases h : r0.nm = nm
    · rw [decide_eq_true h] at e
      cases e
      exact ⟨d, by rw [h, if_pos rfl], hd⟩
    · rw [decide_eq_false h] at e
      rw [if_neg (fun z => h (S_iff.mp (congrArg V.str (Sum.inr.inj z))))]
      exact ih e
theorem wK_get (w : Nat → List Nat) {c : Nat} (hc : c = 110 ∨ c = 102 ∨ c = 115) : valV (wK w) (.inr (S [c])) = some (.str (S (w c))) := by
  have n : ∀ {x y : Nat}, x ≠ y → ¬ (Sum.inr (S [x]) : Key) = Sum.inr (S [y]) := fun h z => h (by have := S_iff.mp (congrArg V.str (Sum.inr.inj z)); simpa using this)
  unfold wK
  rcases hc with rfl | rfl | rfl
  · rw [valV_cons, if_pos rfl]
  · rw [valV_cons, if_neg (n (by decide)), valV_cons, if_pos rfl]
  · rw [valV_cons, if_neg (n (by decide)), valV_cons, if_neg (n (by decide)), valV_cons, if_pos rfl]
theorem merge_from : ∀ (more kvs : List (Key × V)), ((kvs ++ more).map (·.1)).Nodup → mergeK kvs more = kvs ++ more
  | [], kvs, _ => by rw [List.append_nil]; rfl
  | (k, v) :: more, kvs, h => by
    have hn : valV kvs k = none := by
      unfold valV
      rw [Option.map_eq_none_iff, List.find?_eq_none]
      intro x hx
      simp only [decide_eq_true_eq]
      intro z
      rw [List.map_append, List.nodup_append] at h
      exact h.2.2 _ (List.mem_map.mpr ⟨x, hx, rfl⟩) _ (List.mem_map.mpr ⟨(k, v), by simp, rfl⟩) z
    show mergeK (putK kvs k v) more = _
    rw [putK_new v hn, merge_from more _ (by rw [List.append_assoc]; exact h), List.append_assoc]
    rfl
theorem merge_all {kvs : List (Key × V)} (h : (kvs.map (·.1)).Nodup) : mergeK [] kvs = kvs := merge_from kvs [] h
theorem ways_keys {kvs : List (Key × V)} (h : Paired (WRow H) rs kvs) : kvs.map (·.1) = rs.map fun r => Sum.inr (S r.nm) := by
  induction h with
  | nil => rfl
  | cons hf _ ih =>
    obtain ⟨d, rfl, hd⟩ := hf
    rw [List.map_cons, List.map_cons, ih]
def Uniq (rs : List Row3) : Prop := (rs.map (·.nm)).Nodup
theorem ways_nodup {kvs : List (Key × V)} (h : Paired (WRow H) rs kvs) (u : Uniq rs) : (kvs.map (·.1)).Nodup := by
  rw [ways_keys h, show (rs.map fun r => (Sum.inr (S r.nm) : Key)) = (rs.map (·.nm)).map fun l => Sum.inr (S l) by rw [List.map_map]; rfl]
  exact List.Pairwise.map _ (fun a b h z => h (S_iff.mp (congrArg V.str (Sum.inr.inj z)))) u
end
/-! ### going -/
def Closed (rs : List Row3) : Prop := ∀ r ∈ rs, ∀ c, (c = 110 ∨ c = 102 ∨ c = 115) → r.way c ∈ rs.map (·.nm)
def runF (rs : List Row3) (s : List Nat) (w : List Nat) : List Nat := w.foldl (toF rs) s
def firstOf (rs : List Row3) : List Nat := (rs.head?.map (·.nm)).getD []
section
variable {rs : List Row3} {s : List Nat} {r : Row3} {c : Nat} {H : Hp} {p : Addr}
theorem rowOf_mem (h : s ∈ rs.map (·.nm)) : ∃ r, rowOf rs s = some r ∧ r ∈ rs ∧ r.nm = s := by
  obtain ⟨r0, h0, e0⟩ := List.mem_map.mp h
  cases e : rowOf rs s with
  | none =>
    unfold rowOf at e
    rw [List.find?_eq_none] at e
    have := e r0 h0
    simp [e0] at this
  | some r =>
    refine ⟨r, rfl, List.mem_of_find?_eq_some e, ?_⟩
    have := List.find?_some e
    simpa using this
theorem toF_eq (h : rowOf rs s = some r) : toF rs s c = r.way c := by unfold toF; rw [h]; rfl
theorem toF_mem (hc : Closed rs) (h : s ∈ rs.map (·.nm)) (hl : c = 110 ∨ c = 102 ∨ c = 115) : toF rs s c ∈ rs.map (·.nm) := by
  obtain ⟨r, e, hr, _⟩ := rowOf_mem h
  rw [toF_eq e]
  exact hc r hr c hl
theorem runF_snoc {w : List Nat} : runF rs s (w ++ [c]) = toF rs (runF rs s w) c := by unfold runF; rw [List.foldl_append]; rfl
theorem runF_app {w v : List Nat} : runF rs s (w ++ v) = runF rs (runF rs s w) v := by unfold runF; rw [List.foldl_append]
theorem runF_mem (hc : Closed rs) {w : List Nat} (hw : Wd w) : ∀ {s : List Nat}, s ∈ rs.map (·.nm) → runF rs s w ∈ rs.map (·.nm) := by
  induction w with
  | nil => intro s h; exact h
  | cons x w ih =>
    intro s h
    exact ih (fun c hc => hw c (List.mem_cons_of_mem _ hc)) (toF_mem hc h (hw x (List.mem_cons_self ..)))
theorem first_mem (h : rs ≠ []) : firstOf rs ∈ rs.map (·.nm) := by
  cases rs with
  | nil => exact absurd rfl h
  | cons r rs => exact List.mem_map.mpr ⟨r, by simp, rfl⟩
theorem first_ix (h : rs ≠ []) : ∃ r, rs[0]? = some r ∧ r.nm = firstOf rs := by
  cases rs with
  | nil => exact absurd rfl h
  | cons r rs => exact ⟨r, rfl, rfl⟩
theorem ways_step (hw : WaysAt H p rs) (hs : s ∈ rs.map (·.nm)) (hl : c = 110 ∨ c = 102 ∨ c = 115) : ∃ d, DGet H p (.str (S s)) (some (.ref d)) ∧ DGet H d (.str (S [c])) (some (.str (S (toF rs s c)))) := by
  obtain ⟨kvs, h1, h2⟩ := hw
  obtain ⟨r, e, _, _⟩ := rowOf_mem hs
  obtain ⟨d, h3, h4⟩ := ways_get h2 e
  refine ⟨d, ?_, ?_⟩
  · rw [← h3]; exact DGet.k (k := .inr (S s)) h1
  · rw [toF_eq e, ← wK_get r.way hl]; exact DGet.k (k := .inr (S [c])) h4
end
/-! ### often again -/
def oftF (rs : List Row3) (s : List Nat) : Bool := ((rowOf rs s).map (·.oft)).getD false
def oftens (rs : List Row3) : List (List Nat) := (rs.filter (·.oft)).map (·.nm)
def hits (rs : List Row3) (s w : List Nat) : Bool := decide (∃ i, i < w.length ∧ oftF rs (runF rs s (w.take (i + 1))) = true)
def repW (n : Nat) (c : List Nat) : List Nat := (List.replicate n c).flatten
def letsF (rs : List Row3) (h c : List Nat) : Bool := hits rs (runF rs (firstOf rs) (h ++ repW rs.length c)) (repW rs.length c)
section
variable {rs : List Row3} {s w : List Nat} {r : Row3} {c : Nat}
theorem repW_succ {n : Nat} {c : List Nat} : repW (n + 1) c = repW n c ++ c := by
  unfold repW
  rw [List.replicate_succ', List.flatten_append]
  simp
theorem repW_len {n : Nat} {c : List Nat} : (repW n c).length = n * c.length := by unfold repW; simp
theorem repW_wd {n : Nat} {c : List Nat} (h : Wd c) : Wd (repW n c) := by
  intro x hx
  unfold repW at hx
  obtain ⟨l, hl, hx⟩ := List.mem_flatten.mp hx
  rw [List.eq_of_mem_replicate hl] at hx
  exact h x hx
theorem repW_pre {n m : Nat} {c : List Nat} (h : m ≤ n) : repW m c <+: repW n c := by
  induction n with
  | zero => obtain rfl : m = 0 := by omega
            exact List.prefix_refl _
  | succ n ih =>
    by_cases e : m = n + 1
    · subst e; exact List.prefix_refl _
    · exact (ih (by omega)).trans (by rw [repW_succ]; exact List.prefix_append ..)
theorem hits_nil : hits rs s [] = false := by unfold hits; simp
theorem hits_snoc : hits rs s (w ++ [c]) = (hits rs s w || oftF rs (runF rs s (w ++ [c]))) := by
  rw [Bool.eq_iff_iff]
  simp only [hits, Bool.or_eq_true, decide_eq_true_eq, List.length_append, List.length_cons, List.length_nil]
  constructor
  · rintro ⟨i, hi, h⟩
    by_cases e : i = w.length
    · subst e
      rw [List.take_of_length_le (by simp)] at h
      exact .inr h
    · refine .inl ⟨i, by omega, ?_⟩
      rw [List.take_append_of_le_length (by omega)] at h
      exact h
  · rintro (⟨i, hi, h⟩ | h)
    · exact ⟨i, by omega, by rw [List.take_append_of_le_length (by omega)]; exact h⟩
    · exact ⟨w.length, by omega, by rw [List.take_of_length_le (by simp)]; exact h⟩
theorem hits_pre {v : List Nat} (p : w <+: v) (h : hits rs s w = true) : hits rs s v = true := by
  obtain ⟨u, rfl⟩ := p
  unfold hits at h ⊢
  rw [decide_eq_true_eq] at h ⊢
  obtain ⟨i, hi, h⟩ := h
  exact ⟨i, by rw [List.length_append]; omega, by rw [List.take_append_of_le_length (by omega)]; exact h⟩
theorem mem_oftens (u : Uniq rs) : s ∈ oftens rs ↔ oftF rs s = true := by
  unfold oftens oftF rowOf
  induction rs with
  | nil => simp
  | cons r rs ih =>
    have u2 : Uniq rs := (List.nodup_cons.mp u).2
    have u1 : r.nm ∉ rs.map (·.nm) := (List.nodup_cons.mp u).1
    have ih := ih u2
    rw [List.find?_cons]
    by_cases e : r.nm = s
    · rw [decide_eq_true e]
      subst e
      simp only [Option.map_some, Option.getD_some]
      rw [List.filter_cons]
      constructor
      · intro h
        cases ho : r.oft with
        | true => rfl
        | false =>
          rw [ho, if_neg Bool.false_ne_true] at h
          exfalso
          apply u1
          obtain ⟨q, hq, e⟩ := List.mem_map.mp h
          exact List.mem_map.mpr ⟨q, (List.mem_filter.mp hq).1, e⟩
      · intro h
        rw [h, if_pos rfl]
        simp
    · rw [decide_eq_false e]
      simp only
      rw [← ih, List.filter_cons]
      cases ho : r.oft with
      | true => rw [if_pos rfl, List.map_cons, List.mem_cons]; exact ⟨fun h => h.elim (fun z => absurd z.symm e) id, .inr⟩
      | false => rw [if_neg Bool.false_ne_true]
end
/-! ### readings -/
theorem r_dget {td ty : TE} {σ : L2.St} {H : Hp} {Q : VK} (h : td σ H fun x H1 => ty σ H1 fun y H2 => ∃ a v, x = .ref a ∧ DGet H2 a y (some v) ∧ Q v H2) : tDGet td ty σ H Q := h
theorem r_dg {a : Addr} {y v : V} {H : Hp} {Q : VK} (h : DGet H a y (some v)) (q : Q v H) : ∃ a0 v0, V.ref a = .ref a0 ∧ DGet H a0 y (some v0) ∧ Q v0 H := ⟨a, v, rfl, h, q⟩
theorem inV_names {s : List Nat} {ls : List (List Nat)} : inV (.str (S s)) (ls.map fun l => V.str (S l)) = decide (s ∈ ls) := by
  unfold inV
  rw [Bool.eq_iff_iff, decide_eq_true_eq, List.any_eq_true]
  constructor
  · rintro ⟨y, hy, h⟩
    obtain ⟨l, hl, rfl⟩ := List.mem_map.mp hy
    have e : (decide (S l = S s)) = true := h
    rw [← S_inj (of_decide_eq_true e)]
    exact hl
  · intro h
    exact ⟨_, List.mem_map.mpr ⟨s, h, rfl⟩, by show decide (S s = S s) = true; exact decide_eq_true rfl⟩
theorem r_inNm {K : PySem.W.Frag} {H : Hp} {Q : VK} {p : Addr} {s : List Nat} {ls : List (List Nat)} (hs : SqL K H p (ls.map fun l => V.str (S l)) ∨ SqT K H p (ls.map fun l => V.str (S l))) (q : Q (.bl (decide (s ∈ ls))) H) : rIn K false (.str (S s)) (.ref p) H Q := by
  refine ⟨p, _, rfl, hs, rfl, ?_, ?_⟩
  · rw [List.all_eq_true]
    intro x hx
    obtain ⟨l, _, rfl⟩ := List.mem_map.mp hx
    rfl
  · rw [if_neg Bool.false_ne_true, inV_names]
    exact q
theorem r_notInNm {K : PySem.W.Frag} {H : Hp} {Q : VK} {p : Addr} {s : List Nat} {ls : List (List Nat)} (hs : SqL K H p (ls.map fun l => V.str (S l)) ∨ SqT K H p (ls.map fun l => V.str (S l))) (q : Q (.bl (!decide (s ∈ ls))) H) : rIn K true (.str (S s)) (.ref p) H Q := by
  refine ⟨p, _, rfl, hs, rfl, ?_, ?_⟩
  · rw [List.all_eq_true]
    intro x hx
    obtain ⟨l, _, rfl⟩ := List.mem_map.mp hx
    rfl
  · rw [if_pos rfl, inV_names]
    exact q
/-! ### rows that stand in H -/
def RowH (H : Hp) (r : Row3) (t : Addr) : Prop := ∃ d, H t = some (.tup [.str (S r.nm), .bl r.oft, .ref d]) ∧ H d = some (.dK (wK r.way))
def OwnH (H : Hp) (p : Addr) (rs : List Row3) : Prop := ∃ ts : List Addr, H p = some (.lst (ts.map V.ref)) ∧ Paired (RowH H) rs ts
section
variable {K : PySem.W.Frag} {H H1 : Hp} {r : Row3} {t p a : Addr} {rs : List Row3} {c : Int}
theorem RowH.s (h : RowH H r t) : RowAt K H r t := by
  obtain ⟨d, h1, h2⟩ := h
  exact ⟨d, SqT.of h1, h2⟩
theorem OwnH.s (h : OwnH H p rs) : OwnAt K H p rs := by
  obtain ⟨ts, h1, h2⟩ := h
  exact ⟨ts, SqL.of h1, h2.mono fun _ _ h => h.s⟩
theorem RowH.same (e : Same H H1) (h : RowH H r t) : RowH H1 r t := by
  obtain ⟨d, h1, h2⟩ := h
  exact ⟨d, e _ _ h1, e _ _ h2⟩
theorem OwnH.same (e : Same H H1) (h : OwnH H p rs) : OwnH H1 p rs := by
  obtain ⟨ts, h1, h2⟩ := h
  exact ⟨ts, e _ _ h1, h2.mono fun _ _ h => h.same e⟩
theorem RowH.but (e : But a H H1) (hP : PotAt H a c) (h : RowH H r t) : RowH H1 r t := by
  obtain ⟨own, sd, n, hA, _⟩ := hP
  obtain ⟨d, h1, h2⟩ := h
  exact ⟨d, e _ _ (fun z => by subst z; rw [hA] at h1; cases h1) h1, e _ _ (fun z => by subst z; rw [hA] at h2; cases h2) h2⟩
theorem OwnH.ne (hP : PotAt H a c) (h : OwnH H p rs) : p ≠ a := by
  obtain ⟨own, sd, n, hA, _⟩ := hP
  obtain ⟨ts, h1, h2⟩ := h
  rintro rfl
  rw [hA] at h1
  have e := HO.lst.inj (Option.some.inj h1)
  cases ts with
  | nil => cases e
  | cons t ts => cases e
theorem OwnH.but (e : But a H H1) (hP : PotAt H a c) (h : OwnH H p rs) : OwnH H1 p rs := by
  have n := h.ne hP
  obtain ⟨ts, h1, h2⟩ := h
  exact ⟨ts, e _ _ n h1, h2.mono fun _ _ h => h.but e hP⟩
end
def nmL (n : Nat) : List (List Nat) := [[97], [98], [99], [100], [101], [102]].take n
/-- the statement's own law -/
structure Law3 (rs : List Row3) : Prop where
  ne : rs ≠ []
  len : rs.length ≤ 6
  nms : rs.map (·.nm) = nmL rs.length
  cl : Closed rs
theorem nmL_nodup (n : Nat) : (nmL n).Nodup := List.Sublist.nodup (List.take_sublist ..) (by decide)
theorem Law3.u {rs : List Row3} (h : Law3 rs) : Uniq rs := by unfold Uniq; rw [h.nms]; exact nmL_nodup _
theorem nmL_cut {d : Int} (d0 : 0 ≤ d) (d6 : d < 6) : ∃ n : Nat, (1 + d).toNat = n ∧ 1 ≤ n ∧ n ≤ 6 ∧ cutV [V.str (S [97]), .str (S [98]), .str (S [99]), .str (S [100]), .str (S [101]), .str (S [102])] none (some (1 + d)) = (nmL n).map fun l => V.str (S l) := by
  have : d = 0 ∨ d = 1 ∨ d = 2 ∨ d = 3 ∨ d = 4 ∨ d = 5 := by omega
  rcases this with rfl | rfl | rfl | rfl | rfl | rfl <;> exact ⟨_, rfl, by decide, by decide, rfl⟩
theorem nmL_len {n : Nat} (h : n ≤ 6) : (nmL n).length = n := by unfold nmL; rw [List.length_take]; simp; omega
theorem kvs_three {n : Nat} {kvs : List (Key × V)} (h : Paired (fun c kv => ∃ w : List Nat, w ∈ nmL n ∧ kv = (Sum.inr (S [c]), V.str (S w))) [110, 102, 115] kvs) : ∃ f : Nat → List Nat, (∀ c, c = 110 ∨ c = 102 ∨ c = 115 → f c ∈ nmL n) ∧ kvs = wK f ∧ mergeK [] kvs = kvs := by
  cases h with
  | cons h1 h =>
    cases h with
    | cons h2 h =>
      cases h with
      | cons h3 h =>
        cases h
        obtain ⟨w1, m1, rfl⟩ := h1
        obtain ⟨w2, m2, rfl⟩ := h2
        obtain ⟨w3, m3, rfl⟩ := h3
        refine ⟨fun c => if c = 110 then w1 else if c = 102 then w2 else w3, ?_, rfl, ?_⟩
        · rintro c (rfl | rfl | rfl)
          · exact m1
          · exact m2
          · exact m3
        · refine merge_all ?_
          have n : ∀ {x y : Nat}, x ≠ y → ¬ (Sum.inr (S [x]) : Key) = Sum.inr (S [y]) := fun h z => h (by have := S_iff.mp (congrArg V.str (Sum.inr.inj z)); simpa using this)
          simp only [List.map_cons, List.map_nil, List.nodup_cons, List.mem_cons, List.not_mem_nil, or_false, not_or, List.nodup_nil, not_false_eq_true, and_true]
          exact ⟨⟨n (by decide), n (by decide)⟩, n (by decide)⟩
/-- what stands while rows are made -/
structure Mk3 (a p2 F : Addr) (L : List V) (rs : List Row3) (ts : List Addr) (H X : Hp) : Prop where
  b : But a H X
  l : X p2 = some (.lst L)
  f : X F = some (.lst (ts.map V.ref))
  r : Paired (RowH X) rs ts
section
variable {a p2 F D : Addr} {L : List V} {rs : List Row3} {ts : List Addr} {H X Y : Hp} {q : Int}
theorem Mk3.keepA (m : Mk3 a p2 F L rs ts H X) (na : p2 ≠ a) (nf : F ≠ a) (hP : PotAt X a q) (e : But a X Y) : Mk3 a p2 F L rs ts H Y :=
  ⟨m.b.trans e, e _ _ na m.l, e _ _ nf m.f, m.r.mono fun _ _ h => h.but e hP⟩
theorem Mk3.keepS (m : Mk3 a p2 F L rs ts H X) (e : Same X Y) : Mk3 a p2 F L rs ts H Y :=
  ⟨m.b.trans (But.of e), e _ _ m.l, e _ _ m.f, m.r.mono fun _ _ h => h.same e⟩
theorem RowH.lst {r : Row3} {t : Addr} {xs ys : List V} (hD : X D = some (.lst xs)) (h : RowH X r t) : RowH (upd X D (.lst ys)) r t := by
  obtain ⟨d, h1, h2⟩ := h
  exact ⟨d, by rw [upd_ne (fun z => by subst z; rw [hD] at h1; cases h1)]; exact h1, by rw [upd_ne (fun z => by subst z; rw [hD] at h2; cases h2)]; exact h2⟩
theorem Mk3.keepD {xs ys : List V} (m : Mk3 a p2 F L rs ts H X) (h0 : H D = none) (n1 : D ≠ p2) (n2 : D ≠ F) (hD : X D = some (.lst xs)) : Mk3 a p2 F L rs ts H (upd X D (.lst ys)) :=
  ⟨m.b.mut h0, by rw [upd_ne n1.symm]; exact m.l, by rw [upd_ne n2.symm]; exact m.f, m.r.mono fun _ _ h => h.lst hD⟩
theorem PotAt.lst {c : Int} {xs ys : List V} (h : PotAt X a c) (n : D ≠ a) : PotAt (upd X D (.lst ys)) a c := h.ne n
end
/-! ### the text of a law -/
def stL (r : Row3) : List Nat := [115, 116, 97, 116, 101, 32] ++ r.nm ++ (if r.oft then [32, 111, 102, 116, 101, 110] else [])
def onL (c : Nat) (w : List Nat) : List Nat := [111, 110, 32] ++ [c] ++ [32] ++ w
def rowL (r : Row3) : List (List Nat) := [stL r, onL 110 (r.way 110), onL 102 (r.way 102), onL 115 (r.way 115)]
def linesF (rs : List Row3) : List (List Nat) := [108, 97, 119] :: rs.flatMap rowL
def textF (rs : List Row3) : Str := Txt.join (S [10]) ((linesF rs).map S)
theorem nmL_one {n : Nat} {l : List Nat} (h : l ∈ nmL n) : l.length = 1 ∧ ∃ c, l = [c] ∧ 97 ≤ c ∧ c ≤ 102 := by
  have := List.mem_of_mem_take h
  simp only [List.mem_cons, List.not_mem_nil, or_false] at this
  rcases this with rfl | rfl | rfl | rfl | rfl | rfl <;> exact ⟨rfl, _, rfl, by decide, by decide⟩
theorem Law3.nm1 {rs : List Row3} (h : Law3 rs) {r : Row3} (hr : r ∈ rs) : r.nm ∈ nmL rs.length := by rw [← h.nms]; exact List.mem_map.mpr ⟨r, hr, rfl⟩
theorem Law3.way1 {rs : List Row3} (h : Law3 rs) {r : Row3} (hr : r ∈ rs) {c : Nat} (hc : c = 110 ∨ c = 102 ∨ c = 115) : r.way c ∈ nmL rs.length := by rw [← h.nms]; exact h.cl r hr c hc
theorem linesF_snoc {rs : List Row3} {r : Row3} : linesF (rs ++ [r]) = linesF rs ++ rowL r := by unfold linesF; simp
theorem linesF_len {rs : List Row3} : (linesF rs).length = 1 + 4 * rs.length := by
  unfold linesF
  rw [List.length_cons]
  induction rs with
  | nil => rfl
  | cons r rs ih => rw [List.flatMap_cons, List.length_append, List.length_cons]; simp only [rowL, List.length_cons, List.length_nil]; omega
theorem linesF_short {rs : List Row3} (h : Law3 rs) {l : List Nat} (hl : l ∈ linesF rs) : l.length ≤ 13 := by
  unfold linesF at hl
  rcases List.mem_cons.mp hl with rfl | hl
  · decide
  · obtain ⟨r, hr, hl⟩ := List.mem_flatMap.mp hl
    have n1 := (nmL_one (h.nm1 hr)).1
    have w : ∀ c, c = 110 ∨ c = 102 ∨ c = 115 → (r.way c).length = 1 := fun c hc => (nmL_one (h.way1 hr hc)).1
    simp only [rowL, List.mem_cons, List.not_mem_nil, or_false] at hl
    rcases hl with rfl | rfl | rfl | rfl
    · unfold stL
      simp only [List.length_append, n1]
      cases r.oft <;> simp
    · have := w 110 (.inl rfl); simp [onL, this]
    · have := w 102 (.inr (.inl rfl)); simp [onL, this]
    · have := w 115 (.inr (.inr rfl)); simp [onL, this]
theorem r_iteS {b : Bool} {l m : List Nat} {σ : L2.St} {H : Hp} {Q : VK} (h : Q (.str (S (if b then l else m))) H) : if b = true then tC (.str (S l)) σ H Q else tC (.str (S m)) σ H Q := by
  cases b
  · rw [if_neg Bool.false_ne_true] at h ⊢; exact h
  · rw [if_pos rfl] at h ⊢; exact h
theorem sum_short {B : Nat} : ∀ ls : List (List Nat), (∀ l ∈ ls, l.length ≤ B) → ((ls.map S).map fun x : Str => x.length).sum ≤ B * ls.length
  | [], _ => by simp
  | l :: ls, h => by
    have h1 := h l (List.mem_cons_self ..)
    have h2 := sum_short ls fun x hx => h x (List.mem_cons_of_mem _ hx)
    simp only [List.map_cons, List.sum_cons, List.length_cons, S_len, Nat.mul_add, Nat.mul_one]
    omega
/-! ### what is reached -/
theorem nodup_le {α : Type} [DecidableEq α] : ∀ (l m : List α), l.Nodup → l ⊆ m → l.length ≤ m.length
  | [], _, _, _ => Nat.zero_le _
  | x :: l, m, h, s => by
    have hx : x ∈ m := s (List.mem_cons_self ..)
    have h2 := List.nodup_cons.mp h
    have := nodup_le l (m.erase x) h2.2 fun y hy => (List.mem_erase_of_ne (fun z => h2.1 (by subst z; exact hy))).mpr (s (List.mem_cons_of_mem _ hy))
    rw [List.length_erase_of_mem hx] at this
    have := List.length_pos_of_mem hx
    rw [List.length_cons]
    omega
/-- lists while what is reached is looked up: found F, its edge T, behind so many laps -/
structure Rch (rs : List Row3) (s0 : List Nat) (i : Nat) (F T : List (List Nat)) : Prop where
  r : ∀ s ∈ F, ∃ wd, Wd wd ∧ wd ≠ [] ∧ runF rs s0 wd = s
  nd : F.Nodup
  e : ∀ s ∈ F, s ∈ T ∨ ∀ c, (c = 110 ∨ c = 102 ∨ c = 115) → toF rs s c ∈ F
  st : s0 ∈ T ∨ ∀ c, (c = 110 ∨ c = 102 ∨ c = 115) → toF rs s0 c ∈ F
  t : ∀ s ∈ T, s = s0 ∨ s ∈ F
  g : T = [] ∨ i ≤ F.length
/-- within a lap: the edge to come is L, so many of T are done -/
structure RchL (rs : List Row3) (s0 : List Nat) (F T L : List (List Nat)) (j : Nat) : Prop where
  r : ∀ s ∈ F ++ L, ∃ wd, Wd wd ∧ wd ≠ [] ∧ runF rs s0 wd = s
  nd : (F ++ L).Nodup
  d : ∀ s ∈ T.take j, ∀ c, (c = 110 ∨ c = 102 ∨ c = 115) → toF rs s c ∈ F ++ L
  z : j = 0 → L = []
section
variable {rs : List Row3} {s0 s : List Nat} {i j c : Nat} {F T L : List (List Nat)}
theorem Rch.zero : Rch rs s0 0 [] [s0] := ⟨(fun s h => nomatch h), List.nodup_nil, (fun s h => nomatch h), .inl (by simp), (fun s h => .inl (List.mem_singleton.mp h)), .inr (Nat.le_refl _)⟩
theorem Rch.begin (h : Rch rs s0 i F T) : RchL rs s0 F T [] 0 := ⟨by simpa using h.r, by simpa using h.nd, fun s h => by simp at h, fun _ => rfl⟩
theorem RchL.finish (h : Rch rs s0 i F T) (m : RchL rs s0 F T L T.length) : Rch rs s0 (i + 1) (F ++ L) L where
  r := m.r
  nd := m.nd
  e := fun s hs => by
    rcases List.mem_append.mp hs with h1 | h1
    · rcases h.e s h1 with h2 | h2
      · exact .inr fun c hc => m.d s (by rw [List.take_length]; exact h2) c hc
      · exact .inr fun c hc => List.mem_append_left _ (h2 c hc)
    · exact .inl h1
  st := by
    rcases h.st with h2 | h2
    · exact .inr fun c hc => m.d s0 (by rw [List.take_length]; exact h2) c hc
    · exact .inr fun c hc => List.mem_append_left _ (h2 c hc)
  t := fun s hs => .inr (List.mem_append_right _ hs)
  g := by
    rcases h.g with h1 | h1
    · exact .inl (m.z (by rw [h1]; rfl))
    · cases L with
      | nil => exact .inl rfl
      | cons x L => exact .inr (by rw [List.length_append, List.length_cons]; omega)
theorem Rch.all (h : Rch rs s0 i F T) (hi : i = rs.length) (hc : Closed rs) (h0 : s0 ∈ rs.map (·.nm)) (s : List Nat) : s ∈ F ↔ ∃ wd, Wd wd ∧ wd ≠ [] ∧ runF rs s0 wd = s := by
  refine ⟨h.r s, ?_⟩
  rintro ⟨wd, ww, w0, rfl⟩
  rcases h.g with h1 | h1
  · subst h1
    have cl : ∀ s ∈ F, ∀ c, (c = 110 ∨ c = 102 ∨ c = 115) → toF rs s c ∈ F := fun s hs => (h.e s hs).resolve_left (fun z => nomatch z)
    have st := h.st.resolve_left (fun z => nomatch z)
    have go : ∀ (v : List Nat) (s : List Nat), Wd v → s ∈ F → runF rs s v ∈ F := by
      intro v
      induction v with
      | nil => exact fun s _ hs => hs
      | cons x v ih => exact fun s hv hs => ih _ (fun c hc => hv c (List.mem_cons_of_mem _ hc)) (cl s hs x (hv x (List.mem_cons_self ..)))
    cases wd with
    | nil => exact absurd rfl w0
    | cons x v => exact go v _ (fun c hc => ww c (List.mem_cons_of_mem _ hc)) (st x (ww x (List.mem_cons_self ..)))
  · have sub : F ⊆ rs.map (·.nm) := fun s hs => by
      obtain ⟨v, hv, _, rfl⟩ := h.r s hs
      exact runF_mem hc hv h0
    have m := runF_mem hc ww h0
    apply Classical.byContradiction
    intro hn
    have nd2 : (runF rs s0 wd :: F).Nodup := List.nodup_cons.mpr ⟨hn, h.nd⟩
    have sub2 : (runF rs s0 wd :: F) ⊆ rs.map (·.nm) := fun s hs => (List.mem_cons.mp hs).elim (fun z => z ▸ m) fun z => sub z
    have := nodup_le _ _ nd2 sub2
    rw [List.length_cons, List.length_map] at this
    omega
end
theorem r_par3 {i j l : Nat} {tA : TA} {D : Ends} {σ : L2.St} {H : Hp} (h : tA σ H fun vs H1 => ∃ u v w, vs = [u, v, w] ∧ D.nx (((σ.set i (some u)).set j (some v)).set l (some w)) H1) : tPar3 i j l tA D σ H := h
/-- at one of the edge, so many letters are done -/
structure RchM (rs : List Row3) (s0 : List Nat) (F T L : List (List Nat)) (j : Nat) (h : List Nat) (k : Nat) : Prop where
  r : ∀ s ∈ F ++ L, ∃ wd, Wd wd ∧ wd ≠ [] ∧ runF rs s0 wd = s
  nd : (F ++ L).Nodup
  d : ∀ s ∈ T.take j, ∀ c, (c = 110 ∨ c = 102 ∨ c = 115) → toF rs s c ∈ F ++ L
  l : ∀ c ∈ ([110, 102, 115] : List Nat).take k, toF rs h c ∈ F ++ L
section
variable {rs : List Row3} {s0 s h : List Nat} {i j k c : Nat} {F T L : List (List Nat)}
theorem RchL.begin (m : RchL rs s0 F T L j) : RchM rs s0 F T L j h 0 := ⟨m.r, m.nd, m.d, fun c hc => by simp at hc⟩
theorem RchM.finish (m : RchM rs s0 F T L j h 3) (e : T[j]? = some h) : RchL rs s0 F T L (j + 1) where
  r := m.r
  nd := m.nd
  d := fun s hs c hc => by
    rw [take_snoc' e] at hs
    rcases List.mem_append.mp hs with h1 | h1
    · exact m.d s h1 c hc
    · rw [List.mem_singleton] at h1
      subst h1
      exact m.l c (by rcases hc with rfl | rfl | rfl <;> decide)
  z := fun z => by omega
theorem RchM.old (m : RchM rs s0 F T L j h k) (e : ([110, 102, 115] : List Nat)[k]? = some c) (hx : toF rs h c ∈ F ++ L) : RchM rs s0 F T L j h (k + 1) :=
  ⟨m.r, m.nd, m.d, fun x hx2 => by
    rw [take_snoc' e] at hx2
    rcases List.mem_append.mp hx2 with h1 | h1
    · exact m.l x h1
    · rw [List.mem_singleton] at h1
      subst h1
      exact hx⟩
theorem RchM.new (m : RchM rs s0 F T L j h k) (R : Rch rs s0 i F T) (hT : T[j]? = some h) (e : ([110, 102, 115] : List Nat)[k]? = some c) (hl : c = 110 ∨ c = 102 ∨ c = 115) (hx : toF rs h c ∉ F ++ L) : RchM rs s0 F T (L ++ [toF rs h c]) j h (k + 1) where
  r := fun s hs => by
    rw [← List.append_assoc] at hs
    rcases List.mem_append.mp hs with h1 | h1
    · exact m.r s h1
    · rw [List.mem_singleton] at h1
      subst h1
      rcases R.t h (List.mem_of_getElem? hT) with rfl | h2
      · exact ⟨[c], (fun x hx => by rw [List.mem_singleton.mp hx]; exact hl), by simp, rfl⟩
      · obtain ⟨v, hv, _, e2⟩ := R.r h h2
        refine ⟨v ++ [c], hv.app (fun x hx => by rw [List.mem_singleton.mp hx]; exact hl), by simp, ?_⟩
        rw [runF_snoc, e2]
  nd := by
    rw [← List.append_assoc, List.nodup_append]
    exact ⟨m.nd, by simp, fun x h1 y h2 => by rw [List.mem_singleton.mp h2]; rintro rfl; exact hx h1⟩
  d := fun s hs c hc => by rw [← List.append_assoc]; exact List.mem_append_left _ (m.d s hs c hc)
  l := fun x hx2 => by
    rw [← List.append_assoc]
    rw [take_snoc' e] at hx2
    rcases List.mem_append.mp hx2 with h1 | h1
    · exact List.mem_append_left _ (m.l x h1)
    · rw [List.mem_singleton] at h1
      subst h1
      exact List.mem_append_right _ (by simp)
theorem rch_sub (hr : ∀ s ∈ F, ∃ wd, Wd wd ∧ wd ≠ [] ∧ runF rs s0 wd = s) (hc : Closed rs) (h0 : s0 ∈ rs.map (·.nm)) : F ⊆ rs.map (·.nm) := fun s hs => by
  obtain ⟨v, hv, _, rfl⟩ := hr s hs
  exact runF_mem hc hv h0
theorem rch_len (hr : ∀ s ∈ F, ∃ wd, Wd wd ∧ wd ≠ [] ∧ runF rs s0 wd = s) (nd : F.Nodup) (hc : Closed rs) (h0 : s0 ∈ rs.map (·.nm)) : F.length ≤ rs.length := by
  have := nodup_le _ _ nd (rch_sub hr hc h0)
  rwa [List.length_map] at this
theorem Rch.tn (R : Rch rs s0 i F T) (hc : Closed rs) (h0 : s0 ∈ rs.map (·.nm)) (hs : s ∈ T) : s ∈ rs.map (·.nm) := (R.t s hs).elim (fun z => z ▸ h0) fun z => rch_sub R.r hc h0 z
end
/-! ### living states -/
def Goes1 (rs : List Row3) (s t : List Nat) : Prop := ∃ wd, Wd wd ∧ wd ≠ [] ∧ runF rs s wd = t
def Ring (rs : List Row3) (s : List Nat) : Prop := oftF rs s = true ∧ Goes1 rs s s
def Lives (rs : List Row3) (s : List Nat) : Prop := Ring rs s ∨ ∃ t, Ring rs t ∧ Goes1 rs s t
theorem oft_of {rs : List Row3} (u : Uniq rs) {r : Row3} (h : r ∈ rs) : oftF rs r.nm = r.oft := by
  unfold oftF rowOf
  induction rs with
  | nil => cases h
  | cons q rs ih =>
    have u2 : Uniq rs := (List.nodup_cons.mp u).2
    have u1 : q.nm ∉ rs.map (·.nm) := (List.nodup_cons.mp u).1
    rw [List.find?_cons]
    rcases List.mem_cons.mp h with rfl | h
    · rw [decide_eq_true rfl]
      rfl
    · rw [decide_eq_false (fun z => u1 (List.mem_map.mpr ⟨r, h, z.symm⟩))]
      exact ih u2 h
theorem r_anyB {K : PySem.W.Frag} {H : Hp} {Q : VK} {D : Addr} {bs : List Bool} (h : H D = some (.lst (bs.map V.bl))) (q : Q (.bl (bs.any id)) H) : rAny K [.ref D] H Q := ⟨D, bs, rfl, SqL.of h, q⟩
section
variable {rs : List Row3} {R : List (List Nat)} {Pr : List Nat → Prop} {i : Nat} {r : Row3}
theorem ring_step (m : ∀ s, s ∈ R ↔ ∃ q ∈ rs.take i, q.nm = s ∧ Pr s) (er : rs[i]? = some r) (hn : ¬ Pr r.nm) : ∀ s, s ∈ R ↔ ∃ q ∈ rs.take (i + 1), q.nm = s ∧ Pr s := fun s => by
  rw [m, take_snoc' er]
  constructor
  · rintro ⟨q, h1, h2⟩
    exact ⟨q, List.mem_append_left _ h1, h2⟩
  · rintro ⟨q, h1, h2, h3⟩
    rcases List.mem_append.mp h1 with h1 | h1
    · exact ⟨q, h1, h2, h3⟩
    · rw [List.mem_singleton.mp h1] at h2
      subst h2
      exact absurd h3 hn
theorem ring_add (m : ∀ s, s ∈ R ↔ ∃ q ∈ rs.take i, q.nm = s ∧ Pr s) (er : rs[i]? = some r) (hp : Pr r.nm) : ∀ s, s ∈ R ++ [r.nm] ↔ ∃ q ∈ rs.take (i + 1), q.nm = s ∧ Pr s := fun s => by
  rw [List.mem_append, m, take_snoc' er, List.mem_singleton]
  constructor
  · rintro (⟨q, h1, h2⟩ | rfl)
    · exact ⟨q, List.mem_append_left _ h1, h2⟩
    · exact ⟨r, List.mem_append_right _ (by simp), rfl, hp⟩
  · rintro ⟨q, h1, h2, h3⟩
    rcases List.mem_append.mp h1 with h1 | h1
    · exact .inl ⟨q, h1, h2, h3⟩
    · rw [List.mem_singleton.mp h1] at h2
      exact .inr h2.symm
theorem ring_all (m : ∀ s, s ∈ R ↔ ∃ q ∈ rs.take rs.length, q.nm = s ∧ Pr s) : ∀ s, s ∈ R ↔ s ∈ rs.map (·.nm) ∧ Pr s := fun s => by
  rw [m, List.take_length]
  constructor
  · rintro ⟨q, h1, h2, h3⟩
    exact ⟨List.mem_map.mpr ⟨q, h1, h2⟩, h3⟩
  · rintro ⟨h1, h2⟩
    obtain ⟨q, h3, h4⟩ := List.mem_map.mp h1
    exact ⟨q, h3, h4, h2⟩
theorem same_free {H X : Hp} {p : Addr} (s : Same H X) (h : X p = none) : H p = none := by
  cases z : H p with
  | none => rfl
  | some o => rw [s _ _ z] at h; cases h
end
/-! ### losses told otherwise -/
inductive Told (h r : List Nat) : List Nat → List Nat → Prop
  | lap : Told h r (h ++ r) r
  | more (n : Nat) (h2 : 2 ≤ n) (h3 : n ≤ 3) : Told h r h (repW n r)
  | turn (x : Nat) (v : List Nat) (e : r = x :: v) : Told h r (h ++ [x]) (v ++ [x])
end Tf

set_option Elab.async false
set_option linter.all false
set_option maxRecDepth 100000
set_option maxHeartbeats 2000000
/-! what a law lets: often again and again -/
namespace Tf
theorem lt_lap (a : Nat) {b : Nat} (hb : 0 < b) : a < (a / b + 1) * b := by
  have := Nat.mod_add_div a b
  have := Nat.mod_lt a hb
  rw [Nat.succ_mul, Nat.mul_comm (a / b) b]
  omega
theorem told_row {h r h' r' : List Nat} (t : Told h r h' r') (r0 : r ≠ []) : rw h' r' = rw h r := by
  have l0 : 0 < r.length := List.length_pos_iff.mpr r0
  cases t with
  | lap => exact rw_longer l0
  | more n h2 h3 => exact rw_often l0 (by omega)
  | turn x v e => subst e; exact rw_turn
def stF (rs : List Row3) (f : Nat → Nat) (p : Nat) : List Nat := runF rs (firstOf rs) (seg f 0 p)
def InfO (rs : List Row3) (f : Nat → Nat) : Prop := ∀ N, ∃ p, N ≤ p ∧ oftF rs (stF rs f p) = true
section
variable {rs : List Row3} {h r : List Nat}
theorem rw_laps (h r : List Nat) (k : Nat) : seg (rw h r) 0 (h.length + k * r.length) = h ++ repW k r := by
  rw [← seg_app, rw_head, Nat.zero_add, seg_rep (rw_per h r), rw_ring]
  rfl
theorem stF_app (f : Nat → Nat) (p q : Nat) : stF rs f (p + q) = runF rs (stF rs f p) (seg f p q) := by
  unfold stF
  rw [← seg_app, runF_app, Nat.zero_add]
theorem per_seg {f : Nat → Nat} {m p : Nat} (pf : Per f m p) (a q k : Nat) (ha : m ≤ a) : seg f (a + k * p) q = seg f a q := by
  induction k with
  | zero => rw [Nat.zero_mul, Nat.add_zero]
  | succ k ih =>
    rw [← ih]
    refine seg_ext fun i hi => ?_
    have := pf (a + k * p + i) (by omega)
    rw [← this]
    congr 1
    rw [Nat.succ_mul]
    omega
theorem again (hne : rs ≠ []) (hc : Closed rs) (wh : Wd h) (wr : Wd r) : ∃ i d, i ≤ rs.length ∧ 1 ≤ d ∧ d ≤ rs.length ∧ ∀ p, h.length + i * r.length ≤ p → stF rs (rw h r) (p + d * r.length) = stF rs (rw h r) p := by
  have mem : ∀ k, stF rs (rw h r) (h.length + k * r.length) ∈ rs.map (·.nm) := fun k => by
    unfold stF
    rw [rw_laps]
    exact runF_mem hc (wh.app (repW_wd wr)) (first_mem hne)
  have ex : ∃ i j, i < j ∧ j ≤ rs.length ∧ stF rs (rw h r) (h.length + i * r.length) = stF rs (rw h r) (h.length + j * r.length) := by
    apply Classical.byContradiction
    intro hn
    have nd : ((List.range (rs.length + 1)).map fun k => stF rs (rw h r) (h.length + k * r.length)).Nodup := by
      unfold List.Nodup
      rw [List.pairwise_map]
      refine List.Pairwise.imp_of_mem ?_ List.pairwise_lt_range
      intro a b _ hb hab e
      exact hn ⟨a, b, hab, by have := List.mem_range.mp hb; omega, e⟩
    have := nodup_le _ (rs.map (·.nm)) nd fun s hs => by
      obtain ⟨k, _, rfl⟩ := List.mem_map.mp hs
      exact mem k
    rw [List.length_map, List.length_range, List.length_map] at this
    omega
  obtain ⟨i, j, hij, hj, e⟩ := ex
  refine ⟨i, j - i, by omega, by omega, by omega, fun p hp => ?_⟩
  obtain ⟨q, rfl⟩ : ∃ q, p = h.length + i * r.length + q := ⟨p - (h.length + i * r.length), by omega⟩
  have e2 : h.length + i * r.length + q + (j - i) * r.length = h.length + j * r.length + q := by
    have : j * r.length = i * r.length + (j - i) * r.length := by rw [← Nat.add_mul]; congr 1; omega
    omega
  rw [e2, stF_app _ (h.length + j * r.length) q, stF_app _ (h.length + i * r.length) q, ← e]
  congr 1
  have e3 : h.length + j * r.length = h.length + i * r.length + (j - i) * r.length := by
    have : j * r.length = i * r.length + (j - i) * r.length := by rw [← Nat.add_mul]; congr 1; omega
    omega
  rw [e3]
  exact per_seg (rw_per h r) _ _ _ (by omega)
theorem lets_pos (h r : List Nat) : letsF rs h r = true ↔ ∃ i, i < rs.length * r.length ∧ oftF rs (stF rs (rw h r) (h.length + rs.length * r.length + i + 1)) = true := by
  unfold letsF hits
  rw [decide_eq_true_eq, repW_len]
  have e : ∀ i, i < rs.length * r.length → runF rs (runF rs (firstOf rs) (h ++ repW rs.length r)) ((repW rs.length r).take (i + 1)) = stF rs (rw h r) (h.length + rs.length * r.length + i + 1) := fun i hi => by
    rw [show h.length + rs.length * r.length + i + 1 = (h.length + rs.length * r.length) + (i + 1) by omega, stF_app]
    unfold stF
    rw [rw_laps, per_seg (rw_per h r) h.length (i + 1) rs.length (Nat.le_refl _)]
    congr 1
    have e2 : repW rs.length r = seg (rw h r) h.length (rs.length * r.length) := by
      rw [seg_rep (rw_per h r), rw_ring]
      rfl
    rw [e2, seg_take (by omega)]
  constructor
  · rintro ⟨i, hi, h⟩
    exact ⟨i, hi, by rw [← e i hi]; exact h⟩
  · rintro ⟨i, hi, h⟩
    exact ⟨i, hi, by rw [e i hi]; exact h⟩
theorem lets_inf (hne : rs ≠ []) (hc : Closed rs) (wh : Wd h) (wr : Wd r) (r0 : r ≠ []) : letsF rs h r = true ↔ InfO rs (rw h r) := by
  have l0 : 0 < r.length := List.length_pos_iff.mpr r0
  obtain ⟨i0, d, hi0, d1, dn, per⟩ := again (h := h) (r := r) hne hc wh wr
  have hM : h.length + i0 * r.length ≤ h.length + rs.length * r.length := Nat.add_le_add_left (Nat.mul_le_mul_right _ hi0) _
  have perm : ∀ m p, h.length + i0 * r.length ≤ p → stF rs (rw h r) (p + m * (d * r.length)) = stF rs (rw h r) p := by
    intro m
    induction m with
    | zero => intro p _; rw [Nat.zero_mul, Nat.add_zero]
    | succ m ih =>
      intro p hp
      rw [Nat.succ_mul, ← Nat.add_assoc, per _ (by omega)]
      exact ih p hp
  have D0 : 0 < d * r.length := Nat.mul_pos (by omega) l0
  have DN : d * r.length ≤ rs.length * r.length := Nat.mul_le_mul_right _ dn
  rw [lets_pos]
  generalize hP : h.length + rs.length * r.length = P at hM ⊢
  generalize hD : d * r.length = D at perm D0 DN
  constructor
  · rintro ⟨i, hi, ho⟩ N
    refine ⟨P + i + 1 + N * D, ?_, ?_⟩
    · have := Nat.le_mul_of_pos_right N D0
      omega
    · rw [perm N _ (by omega)]
      exact ho
  · intro inf
    obtain ⟨p, hp, ho⟩ := inf (P + 1)
    refine ⟨(p - P - 1) % D, Nat.lt_of_lt_of_le (Nat.mod_lt _ D0) DN, ?_⟩
    have e : p = P + (p - P - 1) % D + 1 + (p - P - 1) / D * D := by
      have := Nat.mod_add_div (p - P - 1) D
      rw [Nat.mul_comm] at this
      omega
    rw [e, perm _ _ (by omega)] at ho
    exact ho
/-- one period tells it -/
theorem inf_per {f : Nat → Nat} {M D : Nat} (D0 : 0 < D) (per : ∀ p, M ≤ p → stF rs f (p + D) = stF rs f p) : InfO rs f ↔ ∃ p, M < p ∧ p ≤ M + D ∧ oftF rs (stF rs f p) = true := by
  have perm : ∀ m p, M ≤ p → stF rs f (p + m * D) = stF rs f p := by
    intro m
    induction m with
    | zero => intro p _; rw [Nat.zero_mul, Nat.add_zero]
    | succ m ih =>
      intro p hp
      rw [Nat.succ_mul, ← Nat.add_assoc, per _ (by omega)]
      exact ih p hp
  constructor
  · intro inf
    obtain ⟨p, hp, ho⟩ := inf (M + 1)
    have hm := Nat.mod_lt (p - M - 1) D0
    refine ⟨M + (p - M - 1) % D + 1, by omega, by omega, ?_⟩
    have e : p = M + (p - M - 1) % D + 1 + (p - M - 1) / D * D := by
      have := Nat.mod_add_div (p - M - 1) D
      rw [Nat.mul_comm] at this
      omega
    rw [e, perm _ _ (by omega)] at ho
    exact ho
  · rintro ⟨p, h1, h2, ho⟩ N
    refine ⟨p + N * D, ?_, ?_⟩
    · have := Nat.le_mul_of_pos_right N D0
      omega
    · rw [perm N _ (by omega)]
      exact ho
/-- a state at the beginning of a lap that comes again -/
theorem laps_per {i j : Nat} (hij : i < j) (e : stF rs (rw h r) (h.length + i * r.length) = stF rs (rw h r) (h.length + j * r.length)) (p : Nat) (hp : h.length + i * r.length ≤ p) : stF rs (rw h r) (p + (j - i) * r.length) = stF rs (rw h r) p := by
  obtain ⟨q, rfl⟩ : ∃ q, p = h.length + i * r.length + q := ⟨p - (h.length + i * r.length), by omega⟩
  have e2 : h.length + i * r.length + q + (j - i) * r.length = h.length + j * r.length + q := by
    have : j * r.length = i * r.length + (j - i) * r.length := by rw [← Nat.add_mul]; congr 1; omega
    omega
  rw [e2, stF_app _ (h.length + j * r.length) q, stF_app _ (h.length + i * r.length) q, ← e]
  congr 1
  have e3 : h.length + j * r.length = h.length + i * r.length + (j - i) * r.length := by
    have : j * r.length = i * r.length + (j - i) * r.length := by rw [← Nat.add_mul]; congr 1; omega
    omega
  rw [e3]
  exact per_seg (rw_per h r) _ _ _ (by omega)
/-- the beginnings of laps -/
def lapS (rs : List Row3) (h r : List Nat) (k : Nat) : List Nat := stF rs (rw h r) (h.length + k * r.length)
theorem lapS_zero : lapS rs h r 0 = runF rs (firstOf rs) h := by
  unfold lapS stF
  rw [Nat.zero_mul, Nat.add_zero, rw_head]
theorem lapS_succ (k : Nat) : lapS rs h r (k + 1) = runF rs (lapS rs h r k) r := by
  unfold lapS
  rw [Nat.succ_mul, ← Nat.add_assoc, stF_app, per_seg (rw_per h r) h.length r.length k (Nat.le_refl _), rw_ring]
/-- whether a lap comes to an often state -/
def lapHit (rs : List Row3) (h r : List Nat) (k : Nat) : Bool := hits rs (lapS rs h r k) r
theorem lapHit_iff (k : Nat) : lapHit rs h r k = true ↔ ∃ p, h.length + k * r.length < p ∧ p ≤ h.length + (k + 1) * r.length ∧ oftF rs (stF rs (rw h r) p) = true := by
  unfold lapHit hits lapS
  rw [decide_eq_true_eq, Nat.succ_mul]
  have e : ∀ i, i < r.length → runF rs (stF rs (rw h r) (h.length + k * r.length)) (r.take (i + 1)) = stF rs (rw h r) (h.length + k * r.length + (i + 1)) := fun i hi => by
    rw [stF_app _ (h.length + k * r.length) (i + 1), per_seg (rw_per h r) h.length (i + 1) k (Nat.le_refl _)]
    congr 1
    have e2 : r = seg (rw h r) h.length r.length := (rw_ring h r).symm
    conv => lhs; rw [e2]
    rw [seg_take (by omega)]
  constructor
  · rintro ⟨i, hi, ho⟩
    exact ⟨h.length + k * r.length + (i + 1), by omega, by omega, by rw [← e i hi]; exact ho⟩
  · rintro ⟨p, h1, h2, ho⟩
    refine ⟨p - (h.length + k * r.length) - 1, by omega, ?_⟩
    rw [e _ (by omega), show h.length + k * r.length + (p - (h.length + k * r.length) - 1 + 1) = p by omega]
    exact ho
/-- what the going round tells as soon as a state comes again -/
theorem lets_laps {t m : Nat} (hne : rs ≠ []) (hc : Closed rs) (wh : Wd h) (wr : Wd r) (r0 : r ≠ []) (htm : t < m) (e : lapS rs h r t = lapS rs h r m) : letsF rs h r = true ↔ ∃ k, t ≤ k ∧ k < m ∧ lapHit rs h r k = true := by
  have l0 : 0 < r.length := List.length_pos_iff.mpr r0
  rw [lets_inf hne hc wh wr r0, inf_per (Nat.mul_pos (show 0 < m - t by omega) l0) (laps_per htm e)]
  have em : h.length + t * r.length + (m - t) * r.length = h.length + m * r.length := by
    have : m * r.length = t * r.length + (m - t) * r.length := by rw [← Nat.add_mul]; congr 1; omega
    omega
  rw [em]
  constructor
  · rintro ⟨p, h1, h2, ho⟩
    refine ⟨(p - h.length - 1) / r.length, ?_, ?_, (lapHit_iff _).mpr ⟨p, ?_, ?_, ho⟩⟩
    · rw [Nat.le_div_iff_mul_le l0]; omega
    · rw [Nat.div_lt_iff_lt_mul l0]; omega
    · have := Nat.div_mul_le_self (p - h.length - 1) r.length
      omega
    · have := lt_lap (p - h.length - 1) l0
      omega
  · rintro ⟨k, h1, h2, hk⟩
    obtain ⟨p, h3, h4, ho⟩ := (lapHit_iff k).mp hk
    refine ⟨p, ?_, ?_, ho⟩
    · have := Nat.mul_le_mul_right r.length h1
      omega
    · have : (k + 1) * r.length ≤ m * r.length := Nat.mul_le_mul_right _ h2
      omega
/-- losses that are alike are let alike -/
theorem lets_alike {h' r' : List Nat} (hne : rs ≠ []) (hc : Closed rs) (wh : Wd h) (wr : Wd r) (r0 : r ≠ []) (wh' : Wd h') (wr' : Wd r') (r0' : r' ≠ []) (e : rw h' r' = rw h r) : letsF rs h' r' = letsF rs h r := by
  rw [Bool.eq_iff_iff, lets_inf hne hc wh' wr' r0', lets_inf hne hc wh wr r0, e]
end
theorem lives_next {rs : List Row3} {s : List Nat} (h : Lives rs s) : ∃ c, (c = 110 ∨ c = 102 ∨ c = 115) ∧ Lives rs (toF rs s c) := by
  have go : ∀ t, Ring rs t → Goes1 rs s t → ∃ c, (c = 110 ∨ c = 102 ∨ c = 115) ∧ Lives rs (toF rs s c) := by
    rintro t ht ⟨wd, hw, w0, e⟩
    cases wd with
    | nil => exact absurd rfl w0
    | cons c v =>
      refine ⟨c, hw c (List.mem_cons_self ..), ?_⟩
      have e2 : runF rs (toF rs s c) v = t := e
      cases v with
      | nil =>
        have e3 : toF rs s c = t := e2
        rw [e3]
        exact .inl ht
      | cons x v => exact .inr ⟨t, ht, x :: v, (fun y hy => hw y (List.mem_cons_of_mem _ hy)), by simp, e2⟩
  rcases h with h | ⟨t, h1, h2⟩
  · exact go s h h.2
  · exact go t h1 h2
end Tf

set_option Elab.async false
set_option linter.all false
set_option maxRecDepth 100000
set_option maxHeartbeats 2000000
namespace Tf
/-- a size, in bits -/
def Z (n : Nat) (x : Int) : Prop := x.natAbs < 2 ^ n
theorem Z.mul {a b : Nat} {x y : Int} (h : Z a x) (k : Z b y) : Z (a + b) (x * y) := by
  unfold Z at *
  rw [Int.natAbs_mul, Nat.pow_add]
  exact Nat.mul_lt_mul'' h k
theorem Z.add {a b : Nat} {x y : Int} (h : Z a x) (k : Z b y) : Z (max a b + 1) (x + y) := by
  unfold Z at *
  have h1 : 2 ^ a ≤ 2 ^ max a b := Nat.pow_le_pow_right (by decide) (Nat.le_max_left _ _)
  have h2 : 2 ^ b ≤ 2 ^ max a b := Nat.pow_le_pow_right (by decide) (Nat.le_max_right _ _)
  rw [Nat.pow_succ]; omega
theorem Z.neg {a : Nat} {x : Int} (h : Z a x) : Z a (-x) := by unfold Z at *; omega
theorem Z.sub {a b : Nat} {x y : Int} (h : Z a x) (k : Z b y) : Z (max a b + 1) (x - y) := by
  rw [Int.sub_eq_add_neg]; exact h.add k.neg
theorem Z.le {a b : Nat} {x : Int} (h : Z a x) (k : a ≤ b) : Z b x := Nat.lt_of_lt_of_le h (Nat.pow_le_pow_right (by decide) k)
theorem Z.abs {a : Nat} {x : Int} (h : Z a x) : Z a (x.natAbs : Int) := by unfold Z at *; omega
theorem Z.if_abs {a : Nat} {x : Int} (h : Z a x) : Z a (if x < 0 then -x else x) := by unfold Z at *; split <;> omega
theorem Z.of {a : Nat} {x : Int} (h : x.natAbs < 2 ^ a) : Z a x := h
theorem Z.log {a : Nat} {x : Int} (h : Z a x) : x.natAbs.log2 ≤ a := by
  by_cases e : x.natAbs = 0
  · rw [e]; show Nat.log2 0 ≤ a; rw [Nat.log2_zero]; exact Nat.zero_le _
  · have := (Nat.log2_lt e).mpr h
    omega
/-- the greatest common divisor -/
def G (t b : Int) : Int := (Nat.gcd t.natAbs b.natAbs : Nat)
theorem G_pos {t b : Int} (h : 0 < b) : 0 < G t b := by
  have : 0 < Nat.gcd t.natAbs b.natAbs := Nat.gcd_pos_of_pos_right _ (by omega)
  unfold G; omega
theorem G_le {t b : Int} (h : 0 < b) : G t b ≤ b := by
  have : Nat.gcd t.natAbs b.natAbs ≤ b.natAbs := Nat.gcd_le_right _ (by omega)
  unfold G; omega
theorem G_dl (t b : Int) : G t b ∣ t := Int.natAbs_dvd_natAbs.mp (Nat.gcd_dvd_left _ _)
theorem G_dr (t b : Int) : G t b ∣ b := Int.natAbs_dvd_natAbs.mp (Nat.gcd_dvd_right _ _)
/-- in least terms -/
def fr (t b : Int) : Int × Int := (t / G t b, b / G t b)
theorem fr1 (t b : Int) : (fr t b).1 * G t b = t := Int.ediv_mul_cancel (G_dl t b)
theorem fr2 (t b : Int) : (fr t b).2 * G t b = b := Int.ediv_mul_cancel (G_dr t b)
structure LT (t b : Int) : Prop where
  pos : 0 < b
  one : Nat.gcd t.natAbs b.natAbs = 1
theorem fr_lt {t b : Int} (h : 0 < b) : LT (fr t b).1 (fr t b).2 := by
  have g0 := G_pos (t := t) h
  refine ⟨Int.ediv_pos_of_pos_of_dvd h (Int.le_of_lt g0) (G_dr t b), ?_⟩
  have e1 : (fr t b).1.natAbs * (G t b).natAbs = t.natAbs := by rw [← Int.natAbs_mul, fr1]
  have e2 : (fr t b).2.natAbs * (G t b).natAbs = b.natAbs := by rw [← Int.natAbs_mul, fr2]
  have e3 : (G t b).natAbs = Nat.gcd t.natAbs b.natAbs := rfl
  have e4 : Nat.gcd (fr t b).1.natAbs (fr t b).2.natAbs * (G t b).natAbs = (G t b).natAbs := by
    rw [← Nat.gcd_mul_right, e1, e2, e3]
  exact Nat.eq_of_mul_eq_mul_right (show 0 < (G t b).natAbs by omega) (by rw [e4, Nat.one_mul])
theorem fr_pos {t b : Int} (h : 0 < b) : 0 < (fr t b).2 := (fr_lt h).pos
theorem fr_x (t b : Int) : (fr t b).1 * b = t * (fr t b).2 := by
  have a := fr1 t b
  have c := fr2 t b
  generalize G t b = g at a c
  generalize (fr t b).1 = x at a ⊢
  generalize (fr t b).2 = y at c ⊢
  subst a c
  grind
theorem lt_uniq {t b t' b' : Int} (h : LT t b) (h' : LT t' b') (e : t * b' = t' * b) : t = t' ∧ b = b' := by
  have p := h.pos
  have p' := h'.pos
  have e1 : t.natAbs * b'.natAbs = t'.natAbs * b.natAbs := by rw [← Int.natAbs_mul, ← Int.natAbs_mul, e]
  have d1 : b.natAbs ∣ b'.natAbs := by
    have : b.natAbs ∣ t.natAbs * b'.natAbs := ⟨t'.natAbs, by rw [e1, Nat.mul_comm]⟩
    exact Nat.Coprime.dvd_of_dvd_mul_left (Nat.Coprime.symm h.one) this
  have d2 : b'.natAbs ∣ b.natAbs := by
    have : b'.natAbs ∣ t'.natAbs * b.natAbs := ⟨t.natAbs, by rw [← e1, Nat.mul_comm]⟩
    exact Nat.Coprime.dvd_of_dvd_mul_left (Nat.Coprime.symm h'.one) this
  have eb : b = b' := by
    have := Nat.dvd_antisymm d1 d2
    omega
  subst eb
  exact ⟨Int.eq_of_mul_eq_mul_right (by omega) e, rfl⟩
theorem fr_id {t b : Int} (h : LT t b) : fr t b = (t, b) := by
  have e : G t b = 1 := by unfold G; rw [h.one]; rfl
  unfold fr
  rw [e, Int.ediv_one, Int.ediv_one]
theorem fr_eq {t b t' b' : Int} (h : 0 < b) (h' : 0 < b') (e : t * b' = t' * b) : fr t b = fr t' b' := by
  have a := fr_lt (t := t) h
  have c := fr_lt (t := t') h'
  have x := fr_x t b
  have y := fr_x t' b'
  have z := lt_uniq a c (by
    have hb : b * b' ≠ 0 := Int.mul_ne_zero (by omega) (by omega)
    apply Int.eq_of_mul_eq_mul_right hb
    generalize (fr t b).1 = p at *
    generalize (fr t b).2 = q at *
    generalize (fr t' b').1 = p' at *
    generalize (fr t' b').2 = q' at *
    calc p * q' * (b * b') = (p * b) * q' * b' := by grind
      _ = t * q * q' * b' := by rw [x]
      _ = (t * b') * q * q' := by grind
      _ = (t' * b) * q * q' := by rw [e]
      _ = (t' * q') * q * b := by grind
      _ = (p' * b') * q * b := by rw [y]
      _ = p' * q * (b * b') := by grind)
  exact Prod.ext z.1 z.2
theorem fr_one (t : Int) : fr t 1 = (t, 1) := fr_id ⟨by decide, by show Nat.gcd _ 1 = 1; exact Nat.gcd_one_right _⟩
theorem fr_Z {t b : Int} {n m : Nat} (h : 0 < b) (h1 : Z n t) (h2 : Z m b) : Z n (fr t b).1 ∧ Z m (fr t b).2 := by
  have g0 := G_pos (t := t) h
  have e1 : (fr t b).1.natAbs * (G t b).natAbs = t.natAbs := by rw [← Int.natAbs_mul, fr1]
  have e2 : (fr t b).2.natAbs * (G t b).natAbs = b.natAbs := by rw [← Int.natAbs_mul, fr2]
  have g1 : 1 ≤ (G t b).natAbs := by omega
  unfold Z at *
  constructor
  · have := Nat.mul_le_mul_left (fr t b).1.natAbs g1
    omega
  · have := Nat.mul_le_mul_left (fr t b).2.natAbs g1
    omega
theorem G_Z {t b : Int} {m : Nat} (h : 0 < b) (h2 : Z m b) : Z m (G t b) := by
  have g0 := G_pos (t := t) h
  have g1 := G_le (t := t) h
  unfold Z at *
  omega
theorem fr_Z2 {t b : Int} {m : Nat} (h : 0 < b) (h2 : Z m b) : Z m (fr t b).2 := by
  have g0 := G_pos (t := t) h
  have e2 : (fr t b).2.natAbs * (G t b).natAbs = b.natAbs := by rw [← Int.natAbs_mul, fr2]
  have g1 : 1 ≤ (G t b).natAbs := by omega
  unfold Z at *
  have := Nat.mul_le_mul_left (fr t b).2.natAbs g1
  omega
theorem fr_slim {a b m : Int} (hb : 0 < b) (hm : 0 < m) : fr (fr a b).1 ((fr a b).2 * m) = fr a (b * m) := by
  have x := fr_x a b
  have p := fr_pos (t := a) hb
  refine fr_eq (Int.mul_pos p hm) (Int.mul_pos hb hm) ?_
  grind
theorem z3 (n : Nat) : Z (2 * n + 1) (3 ^ n) := by
  unfold Z
  have e : ((3 : Int) ^ n).natAbs = 3 ^ n := by rw [Int.natAbs_pow]; rfl
  rw [e]
  have : 3 ^ n ≤ 4 ^ n := Nat.pow_le_pow_left (by decide) n
  have h4 : 4 ^ n = 2 ^ (2 * n) := by rw [Nat.pow_mul]
  rw [Nat.pow_succ]
  have : 0 < 2 ^ (2 * n) := Nat.pow_pos (by decide)
  omega
theorem fr_plus {a b c d : Int} (hb : 0 < b) (hd : 0 < d) : fr ((fr a b).1 * (fr c d).2 + (fr c d).1 * (fr a b).2) ((fr a b).2 * (fr c d).2) = fr (a * d + c * b) (b * d) := by
  have x := fr_x a b
  have y := fr_x c d
  have p := fr_pos (t := a) hb
  have q := fr_pos (t := c) hd
  refine fr_eq (Int.mul_pos p q) (Int.mul_pos hb hd) ?_
  grind
theorem fr_less {a b c d : Int} (hb : 0 < b) (hd : 0 < d) : fr ((fr a b).1 * (fr c d).2 - (fr c d).1 * (fr a b).2) ((fr a b).2 * (fr c d).2) = fr (a * d - c * b) (b * d) := by
  have x := fr_x a b
  have y := fr_x c d
  have p := fr_pos (t := a) hb
  have q := fr_pos (t := c) hd
  refine fr_eq (Int.mul_pos p q) (Int.mul_pos hb hd) ?_
  grind
theorem fr_times {a b c d : Int} (hb : 0 < b) (hd : 0 < d) : fr ((fr a b).1 * (fr c d).1) ((fr a b).2 * (fr c d).2) = fr (a * c) (b * d) := by
  have x := fr_x a b
  have y := fr_x c d
  have p := fr_pos (t := a) hb
  have q := fr_pos (t := c) hd
  refine fr_eq (Int.mul_pos p q) (Int.mul_pos hb hd) ?_
  grind
theorem fr_over {a b c d : Int} (hb : 0 < b) (hc : 0 < c) : fr ((fr a b).1 * d) ((fr a b).2 * c) = fr (a * d) (b * c) := by
  have x := fr_x a b
  have p := fr_pos (t := a) hb
  refine fr_eq (Int.mul_pos p hc) (Int.mul_pos hb hc) ?_
  grind
theorem abs_nat (x : Int) : (if x < 0 then -x else x) = (x.natAbs : Int) := by split <;> omega
theorem fr_abs {a b : Int} (hb : 0 < b) : fr ((fr a b).1.natAbs : Int) (fr a b).2 = fr (a.natAbs : Int) b ∧ fr ((fr a b).1.natAbs : Int) (fr a b).2 = (((fr a b).1.natAbs : Int), (fr a b).2) := by
  have p := fr_lt (t := a) hb
  constructor
  · refine fr_eq p.pos hb ?_
    have x := congrArg Int.natAbs (fr_x a b)
    rw [Int.natAbs_mul, Int.natAbs_mul] at x
    have e1 : (b.natAbs : Int) = b := by omega
    have e2 : ((fr a b).2.natAbs : Int) = (fr a b).2 := by have := p.pos; omega
    have x2 : ((fr a b).1.natAbs : Int) * (b.natAbs : Int) = (a.natAbs : Int) * ((fr a b).2.natAbs : Int) := by
      rw [← Int.natCast_mul, ← Int.natCast_mul, x]
    rw [e1, e2] at x2
    exact x2
  · exact fr_id ⟨p.pos, by rw [Int.natAbs_natCast]; exact p.one⟩
theorem fr_abs2 {a b c d : Int} (hb : 0 < b) (hd : 0 < d) : fr (((fr a b).1 * (fr c d).2 - (fr c d).1 * (fr a b).2).natAbs : Int) ((fr a b).2 * (fr c d).2) = fr ((a * d - c * b).natAbs : Int) (b * d) := by
  have p := fr_pos (t := a) hb
  have q := fr_pos (t := c) hd
  have h := fr_less (a := a) (c := c) hb hd
  have h1 := fr_abs (a := (fr a b).1 * (fr c d).2 - (fr c d).1 * (fr a b).2) (Int.mul_pos p q)
  have h2 := fr_abs (a := a * d - c * b) (Int.mul_pos hb hd)
  rw [← h1.1, ← h2.1, h]
/-- which of two is less -/
theorem fr_lt_iff {a b c d : Int} (hb : 0 < b) (hd : 0 < d) : (fr a b).1 * (fr c d).2 < (fr c d).1 * (fr a b).2 ↔ a * d < c * b := by
  have x := fr_x a b
  have y := fr_x c d
  have p := fr_pos (t := a) hb
  have q := fr_pos (t := c) hd
  have hbd := Int.mul_pos hb hd
  have hpq := Int.mul_pos p q
  generalize (fr a b).1 = s at *
  generalize (fr a b).2 = u at *
  generalize (fr c d).1 = v at *
  generalize (fr c d).2 = w at *
  have e1 : (s * w) * (b * d) = (a * d) * (u * w) := by grind
  have e2 : (v * u) * (b * d) = (c * b) * (u * w) := by grind
  constructor
  · intro h
    have := Int.mul_lt_mul_of_pos_right h hbd
    rw [e1, e2] at this
    exact Int.lt_of_mul_lt_mul_right this (Int.le_of_lt hpq)
  · intro h
    have := Int.mul_lt_mul_of_pos_right h hpq
    rw [← e1, ← e2] at this
    exact Int.lt_of_mul_lt_mul_right this (Int.le_of_lt hbd)
/-! what near tells, and what is due -/
section
variable {a0 a1 b0 b1 n m : Int}
/-- by n of m steps from the one to the other -/
def way (a0 a1 b0 b1 n m : Int) : Int × Int := fr (a0 * b1 * (m - n) + b0 * a1 * n) (a1 * b1 * m)
theorem way_due (ha : 0 < a1) (hb : 0 < b1) (hm : 0 < m) :
    fr (a0 * (fr ((b0 * a1 - a0 * b1) * n) (b1 * a1 * m)).2 + (fr ((b0 * a1 - a0 * b1) * n) (b1 * a1 * m)).1 * a1) (a1 * (fr ((b0 * a1 - a0 * b1) * n) (b1 * a1 * m)).2) = way a0 a1 b0 b1 n m := by
  have hz : 0 < b1 * a1 * m := Int.mul_pos (Int.mul_pos hb ha) hm
  have x := fr_x ((b0 * a1 - a0 * b1) * n) (b1 * a1 * m)
  have p := fr_pos (t := (b0 * a1 - a0 * b1) * n) hz
  generalize (fr ((b0 * a1 - a0 * b1) * n) (b1 * a1 * m)).1 = s at *
  generalize (fr ((b0 * a1 - a0 * b1) * n) (b1 * a1 * m)).2 = u at *
  refine fr_eq (Int.mul_pos ha p) (Int.mul_pos (Int.mul_pos ha hb) hm) ?_
  grind
theorem way_pos (ha : 0 < a1) (hb : 0 < b1) (hm : 0 < m) : 0 < a1 * b1 * m := Int.mul_pos (Int.mul_pos ha hb) hm
theorem way_apart (ha : 0 < a1) (hb : 0 < b1) (hm : 0 < m) {k : Int} (hk : k = n + 1 ∨ n = k + 1) :
    fr (((a0 * b1 * (m - n) + b0 * a1 * n) * (a1 * b1 * m) - (a0 * b1 * (m - k) + b0 * a1 * k) * (a1 * b1 * m)).natAbs : Int) ((a1 * b1 * m) * (a1 * b1 * m)) = fr ((a0 * b1 - b0 * a1).natAbs : Int) (a1 * b1 * m) := by
  have p := way_pos ha hb hm
  refine fr_eq (Int.mul_pos p p) p ?_
  have e : (a0 * b1 * (m - n) + b0 * a1 * n) * (a1 * b1 * m) - (a0 * b1 * (m - k) + b0 * a1 * k) * (a1 * b1 * m) = (a0 * b1 - b0 * a1) * (k - n) * (a1 * b1 * m) := by grind
  rw [e, Int.natAbs_mul, Int.natAbs_mul]
  have e1 : (k - n).natAbs = 1 := by omega
  rw [e1, Nat.mul_one, Int.natCast_mul]
  have e2 : ((a1 * b1 * m).natAbs : Int) = a1 * b1 * m := by omega
  rw [e2]
  grind
theorem way_low (ha : 0 < a1) (hb : 0 < b1) (hm : 0 < m) : way a0 a1 b0 b1 0 m = fr a0 a1 := by
  refine fr_eq (way_pos ha hb hm) ha ?_
  grind
theorem way_high (ha : 0 < a1) (hb : 0 < b1) (hm : 0 < m) : way a0 a1 b0 b1 m m = fr b0 b1 := by
  refine fr_eq (way_pos ha hb hm) hb ?_
  grind
/-- an end is not below the lesser worth -/
theorem way_ge (ha : 0 < a1) (hb : 0 < b1) (hm : 0 < m) (h0 : 0 ≤ n) (h1 : n ≤ m) (h : a0 * b1 ≤ b0 * a1) :
    a0 * (a1 * b1 * m) ≤ (a0 * b1 * (m - n) + b0 * a1 * n) * a1 ∧ (a0 * b1 * (m - n) + b0 * a1 * n) * b1 ≤ b0 * (a1 * b1 * m) := by
  have e1 : 0 ≤ (b0 * a1 - a0 * b1) * n * a1 := Int.mul_nonneg (Int.mul_nonneg (by omega) h0) (by omega)
  have e2 : 0 ≤ (b0 * a1 - a0 * b1) * (m - n) * b1 := Int.mul_nonneg (Int.mul_nonneg (by omega) (by omega)) (by omega)
  constructor
  · have : (a0 * b1 * (m - n) + b0 * a1 * n) * a1 - a0 * (a1 * b1 * m) = (b0 * a1 - a0 * b1) * n * a1 := by grind
    omega
  · have : b0 * (a1 * b1 * m) - (a0 * b1 * (m - n) + b0 * a1 * n) * b1 = (b0 * a1 - a0 * b1) * (m - n) * b1 := by grind
    omega
theorem way_le (ha : 0 < a1) (hb : 0 < b1) (hm : 0 < m) (h0 : 0 ≤ n) (h1 : n ≤ m) (h : b0 * a1 ≤ a0 * b1) :
    (a0 * b1 * (m - n) + b0 * a1 * n) * a1 ≤ a0 * (a1 * b1 * m) ∧ b0 * (a1 * b1 * m) ≤ (a0 * b1 * (m - n) + b0 * a1 * n) * b1 := by
  have e1 : 0 ≤ (a0 * b1 - b0 * a1) * n * a1 := Int.mul_nonneg (Int.mul_nonneg (by omega) h0) (by omega)
  have e2 : 0 ≤ (a0 * b1 - b0 * a1) * (m - n) * b1 := Int.mul_nonneg (Int.mul_nonneg (by omega) (by omega)) (by omega)
  constructor
  · have : a0 * (a1 * b1 * m) - (a0 * b1 * (m - n) + b0 * a1 * n) * a1 = (a0 * b1 - b0 * a1) * n * a1 := by grind
    omega
  · have : (a0 * b1 * (m - n) + b0 * a1 * n) * b1 - b0 * (a1 * b1 * m) = (a0 * b1 - b0 * a1) * (m - n) * b1 := by grind
    omega
theorem way_due2 {a b c d n m : Int} (hb : 0 < b) (hd : 0 < d) (hm : 0 < m) : fr (a * (d * b * (1 * m)) + (c * b - a * d) * (n * 1) * b) (b * (d * b * (1 * m))) = way a b c d n m := by
  have h1 : 0 < d * b * (1 * m) := Int.mul_pos (Int.mul_pos hd hb) (by omega)
  refine fr_eq (Int.mul_pos hb h1) (way_pos hb hd hm) ?_
  grind
theorem way_fr {a b c d n m : Int} (hb : 0 < b) (hd : 0 < d) (hm : 0 < m) : way (fr a b).1 (fr a b).2 (fr c d).1 (fr c d).2 n m = way a b c d n m := by
  have x := fr_x a b
  have y := fr_x c d
  have p := fr_pos (t := a) hb
  have q := fr_pos (t := c) hd
  refine fr_eq (way_pos p q hm) (way_pos hb hd hm) ?_
  grind
end
end Tf

namespace Tf
open PySem PySem.Spec PyProof.Rows L2
theorem cz {i j : Int} {k l : Nat} (h : Z k i) (h' : Z l j) (e : k + l < 1000000) : CMulW i j := by
  have := h.log
  have := h'.log
  unfold CMulW
  omega
theorem dz {i j : Int} {l : Nat} (h : 0 < j) (h' : Z l j) (e : l < 9000) : CDivW i j := by
  have := h'.log
  exact ⟨h, by omega⟩
def frV (a b : Int) : List V := [.int (fr a b).1, .int (fr a b).2]
/-- a fraction that stands at x, of a value a / b that is told in few bits -/
structure FrA (K : PySem.W.Frag) (H : Hp) (x : Addr) (a b : Int) (k : Nat) : Prop where
  at_ : SqT K H x (frV a b)
  pos : 0 < b
  za : Z k a
  zb : Z k b
theorem FrA.same {K : PySem.W.Frag} {H H' : Hp} {x : Addr} {a b : Int} {k : Nat} (h : FrA K H x a b k) (e : Same H H') : FrA K H' x a b k := ⟨Same.sqt e h.at_, h.pos, h.za, h.zb⟩
theorem FrA.le {K : PySem.W.Frag} {H : Hp} {x : Addr} {a b : Int} {k l : Nat} (h : FrA K H x a b k) (e : k ≤ l) : FrA K H x a b l := ⟨h.at_, h.pos, h.za.le e, h.zb.le e⟩
theorem FrA.z1 {K : PySem.W.Frag} {H : Hp} {x : Addr} {a b : Int} {k : Nat} (h : FrA K H x a b k) : Z k (fr a b).1 := (fr_Z h.pos h.za h.zb).1
theorem FrA.z2 {K : PySem.W.Frag} {H : Hp} {x : Addr} {a b : Int} {k : Nat} (h : FrA K H x a b k) : Z k (fr a b).2 := (fr_Z h.pos h.za h.zb).2
theorem FrA.p2 {K : PySem.W.Frag} {H : Hp} {x : Addr} {a b : Int} {k : Nat} (h : FrA K H x a b k) : 0 < (fr a b).2 := fr_pos h.pos
theorem FrA.one {K : PySem.W.Frag} {H : Hp} {x : Addr} {a : Int} {k : Nat} (h : SqT K H x [.int a, .int 1]) (z : Z k a) (hk : 1 ≤ k) : FrA K H x a 1 k := by
  refine ⟨?_, by decide, z, Z.le (a := 1) (by unfold Z; decide) hk⟩
  unfold frV
  rw [fr_one]
  exact h
theorem nu_mem (p : Int) : (nu p = (p, p + 1) ∧ p % 2 = 0) ∨ (nu p = (p + 1, p) ∧ p % 2 = 1) := by
  unfold nu
  split
  · exact .inl ⟨rfl, by assumption⟩
  · exact .inr ⟨rfl, by omega⟩
theorem nu_Z (l : List Nat) (hl : l.length ≤ 200) : Z 500 (nu (pl l)).1 ∧ Z 500 (nu (pl l)).2 ∧ Z 500 ((3 : Int) ^ l.length) := by
  have h1 := pl_nn l
  have h2 := pl_lt l
  have h3 : Z 500 ((3 : Int) ^ l.length) := (z3 l.length).le (by omega)
  have h4 : ∀ x : Int, 0 ≤ x → x ≤ 3 ^ l.length → Z 500 x := fun x a b => by unfold Z at *; omega
  rcases nu_mem (pl l) with ⟨e, _⟩ | ⟨e, _⟩ <;> rw [e] <;> exact ⟨h4 _ (by show 0 ≤ _; omega) (by show _ ≤ _; omega), h4 _ (by show 0 ≤ _; omega) (by show _ ≤ _; omega), h3⟩
theorem PotAt.ne_tup {H : Hp} {a p : Addr} {c : Int} {xs : List V} (h : PotAt H a c) (e : H p = some (.tup xs)) : p ≠ a := by
  rintro rfl
  obtain ⟨own, sd, n, hA, _⟩ := h
  rw [hA] at e
  cases e
section
variable {K : PySem.W.Frag} {H : Hp} {Q : VK} {x y : Addr} {a b c d : Int}
theorem r_eqII (h1 : SqT K H x [.int a, .int b]) (h2 : SqT K H y [.int c, .int d]) (q : Q (.bl (decide (a = c ∧ b = d))) H) : rEqD K (.ref x) (.ref y) H Q := by
  refine ⟨_, _, .tup h1 (.cons (.int _) (.cons (.int _) .nil)), .tup h2 (.cons (.int _) (.cons (.int _) .nil)), ?_, ?_, ?_⟩
  · unfold SeqAt.shaped
    simp only [PyData.canLay0, PyData.canLayAll0, PyData.depth, PyData.depthAll]
    rfl
  · unfold SeqAt.shaped
    simp only [PyData.canLay0, PyData.canLayAll0, PyData.depth, PyData.depthAll]
    rfl
  · have e : PyData.eqv (.tuple [.int a, .int b]) (.tuple [.int c, .int d]) = decide (a = c ∧ b = d) := by
      simp only [PyData.eqv, PyData.eqvAll, Bool.and_true, Bool.decide_and]
      rw [Bool.eq_iff_iff]
      simp
    rw [e]
    exact q
theorem r_neII (h1 : SqT K H x [.int a, .int b]) (h2 : SqT K H y [.int c, .int d]) (q : Q (.bl (!decide (a = c ∧ b = d))) H) : rNeD K (.ref x) (.ref y) H Q := by
  refine ⟨_, _, .tup h1 (.cons (.int _) (.cons (.int _) .nil)), .tup h2 (.cons (.int _) (.cons (.int _) .nil)), ?_, ?_, ?_⟩
  · unfold SeqAt.shaped
    simp only [PyData.canLay0, PyData.canLayAll0, PyData.depth, PyData.depthAll]
    rfl
  · unfold SeqAt.shaped
    simp only [PyData.canLay0, PyData.canLayAll0, PyData.depth, PyData.depthAll]
    rfl
  · have e : PyData.eqv (.tuple [.int a, .int b]) (.tuple [.int c, .int d]) = decide (a = c ∧ b = d) := by
      simp only [PyData.eqv, PyData.eqvAll, Bool.and_true, Bool.decide_and]
      rw [Bool.eq_iff_iff]
      simp
    rw [e]
    exact q
theorem r_gcd (q : Q (.int (G a b)) H) : rGcd [.int a, .int b] H Q := ⟨a, b, rfl, q⟩
/-- for x in t: .. -/
theorem for_T {t : Addr} {xs : List V} {g : TG} {tb : TS} {D : Ends} {σ : L2.St} {H : Hp} (Pv : Nat → L2.St → Hp → Prop) (h0 : Pv 0 σ H) (hT : ∀ i σ H, Pv i σ H → SqT K H t xs)
    (hs : ∀ i x σ H, xs[i]? = some x → Pv i σ H → g x σ H fun σ2 H2 => tb { D with nx := Pv (i + 1), ct := Pv (i + 1), bk := D.nx } σ2 H2) (hd : ∀ σ H, Pv xs.length σ H → D.nx σ H) :
    ∃ W : Nat → Nat → L2.St → Hp → Prop, (∃ m, W 0 m σ H) ∧ ∀ i m σ H, W i m σ H →
      ((Itt K t).stop i H ∧ D.nx σ H) ∨ ((Itt K t).go i H ∧ ∃ N : L2.St → Hp → Prop, (∀ σ' H', N σ' H' → ∃ m', m' < m ∧ W (i + 1) m' σ' H') ∧ ∀ x H', (Itt K t).yld i H x H' → g x σ H' fun σ2 H2 => tb { D with nx := N, ct := N, bk := D.nx } σ2 H2) := by
  refine ⟨fun i m σ H => m = xs.length - i ∧ i ≤ xs.length ∧ Pv i σ H, ⟨xs.length, by simp, Nat.zero_le _, h0⟩, ?_⟩
  rintro i m σ H ⟨rfl, hi, p⟩
  by_cases hlt : i < xs.length
  · refine .inr ⟨⟨xs, xs[i], hT _ _ _ p, List.getElem?_eq_getElem hlt⟩, Pv (i + 1), fun σ' H' p' => ⟨xs.length - (i + 1), by omega, rfl, hlt, p'⟩, fun x H' y => ?_⟩
    obtain ⟨rfl, f⟩ := y
    exact hs i x σ H' (f _ (hT _ _ _ p)) p
  · refine .inl ⟨⟨xs, hT _ _ _ p, by omega⟩, ?_⟩
    have : i = xs.length := by omega
    subst this
    exact hd σ H p
theorem r_iEnum {ta : TA} {σ : L2.St} {R : It → Hp → Prop} (h : ta σ H fun vs H1 => ∃ a xs, vs = [.ref a] ∧ SqL K H1 a xs ∧ R (Ite K a) H1) : iEnum K ta σ H R := h
theorem r_rvT {tx : TE} {σ : L2.St} (h : tx σ H fun v H1 => ∃ a xs, v = .ref a ∧ SqT K H1 a xs ∧ ∀ p, H1 p = none → Q (.ref p) (upd H1 p (.tup xs.reverse))) : tRevT K tx σ H Q := h
/-- [f(c) for c in a text], f of a bool -/
theorem lcS_bl {l : List Nat} {g : TG} {te : TE} {vs : List Nat} {σ : L2.St} {H1 : Hp} {D : Addr} {Qd : Hp → Prop} (f : Nat → Bool) (hD : H1 D = none) (hl : l.length ≤ 1000000)
    (hs : ∀ (i c : Nat) (H : Hp), l[i]? = some c → Same H1 H → ∀ R : V → Hp → Prop, R (.bl (f c)) H → g (.str (S [c])) (wipe σ vs) H fun σ2 H2 => wipe σ2 vs = wipe σ vs ∧ te σ2 H2 R)
    (hd : ∀ H, Same H1 H → H D = some (.lst ((l.map f).map V.bl)) → Qd H) :
    ∃ W : Nat → Nat → Hp → Prop, (∃ m, W 0 m (upd H1 D (.lst []))) ∧ ∀ i m H, W i m H →
      ((Its (S l)).stop i H ∧ Qd H) ∨ ((Its (S l)).go i H ∧ ∃ Nx : Hp → Prop, (∀ H', Nx H' → ∃ m', m' < m ∧ W (i + 1) m' H') ∧ ∀ x H', (Its (S l)).yld i H x H' → g x (wipe σ vs) H' fun σ2 H2 => wipe σ2 vs = wipe σ vs ∧ tYes σ2 H2 fun b H3 =>
        if b = true then te σ2 H3 fun y H4 => ∃ acc, H4 D = some (.lst acc) ∧ acc.length < sizeLine ∧ Nx (upd H4 D (.lst (acc ++ [y]))) else Nx H3) := by
  have sz : (S l).cps.size = l.length := by unfold S; simp
  refine lc_acc (n := l.length) (fun i H' => Same H1 H') (fun i v => ∃ c, l[i]? = some c ∧ v = .bl (f c)) hl (same_new hD) (fun i H' acc acc' e _ => Same.mut e hD) (fun i H' hi e => ?_) (fun H' e => ?_) ?_ ?_
  · show i < (S l).cps.size
    rw [sz]; exact hi
  · show (S l).cps.size ≤ l.length
    rw [sz]; exact Nat.le_refl _
  · rintro i x H H' acc hi e hacc ⟨rfl, c, ec, rfl⟩ R hR
    have ec2 : l[i]? = some c := by simpa [S] using ec
    exact hs i c _ ec2 e R (hR _ _ hacc ⟨c, ec2, rfl⟩ e)
  · intro H acc hl2 hv hacc e
    have : acc = (l.map f).map V.bl := by
      apply List.ext_getElem?
      intro i
      by_cases hi : i < l.length
      · obtain ⟨c, ec, ev⟩ := hv i acc[i] (List.getElem?_eq_getElem (by omega))
        rw [List.getElem?_eq_getElem (by omega), ev, List.getElem?_map, List.getElem?_map, ec]
        rfl
      · rw [List.getElem?_eq_none (by omega), List.getElem?_eq_none (by simp; omega)]
    rw [this] at hacc
    exact hd _ e hacc
theorem Eqv.two {p x' y' p' : Addr} {i j k l : Int} (h1 : SqT K H p [.ref x, .ref y]) (h2 : SqT K H x [.int i, .int j]) (h3 : SqT K H y [.int k, .int l]) (h4 : SqT K H p' [.ref x', .ref y']) (h5 : SqT K H x' [.int i, .int j]) (h6 : SqT K H y' [.int k, .int l]) : Eqv K H false 2 (.ref p) (.ref p') := by
  have fl : ∀ {u v : Addr} {i j : Int}, SqT K H u [.int i, .int j] → SqT K H v [.int i, .int j] → Eqv K H false 1 (.ref u) (.ref v) := fun {u v i j} a b => by
    refine Eqv.tup a b rfl (by show 2 ≤ 1000000; decide) fun n x y ex ey => ?_
    match n, ex, ey with
    | 0, ex, ey =>
      cases ex; cases ey
      exact Eqv.int
    | 1, ex, ey =>
      cases ex; cases ey
      exact Eqv.int
  refine Eqv.tup h1 h4 rfl (by show 2 ≤ 1000000; decide) fun n a b ex ey => ?_
  match n, ex, ey with
  | 0, ex, ey =>
    cases ex; cases ey
    exact fl h2 h5
  | 1, ex, ey =>
    cases ex; cases ey
    exact fl h3 h6
theorem Eqv.pair {p q : Addr} {i j : Int} {n : Nat} (h1 : SqT K H p [.int i, .int j]) (h2 : SqT K H q [.int i, .int j]) : Eqv K H false (n + 1) (.ref p) (.ref q) := by
  refine Eqv.tup h1 h2 rfl (by show 2 ≤ 1000000; decide) fun n x y ex ey => ?_
  match n, ex, ey with
  | 0, ex, ey =>
    cases ex; cases ey
    exact Eqv.int
  | 1, ex, ey =>
    cases ex; cases ey
    exact Eqv.int
end
end Tf

set_option Elab.async false
set_option linter.all false
set_option maxRecDepth 100000
set_option maxHeartbeats 2000000
/-! the program's laws: their texts read, their objects -/
namespace Tf
open PySem PySem.Spec PyProof.Rows L2 LamX
/-- a method of a class that keeps a promise -/
structure OkM (P : Program) (w : World) (K : PySem.W.Frag) (mg : Str → Option Value) (base : Heap) (CX : CXT) (k : Nat) (C m : Str) (ps : List Str) (sp : Sp) : Prop where
  ex : ∃ fd, Binds K fd ps [] ∧ FnOk P w K mg base CX k (He.ma K (He.ga K C) m) fd ps sp
theorem pe_mkI {X : Cx} {CX : CXT} {k : Nat} {ps : List Str} {sp : Sp} {E : XK} {C x : Str} {p pos : Pos} {e : Expr} {es : List Expr} {t : TA} (M : Mk X.K (He.ga X.K C) (He.ma X.K (He.ga X.K C) "__init__")) (F : OkM X.prog X.w X.K X.mg X.base CX k C "__init__" ps sp)
    (hr : Room (k + 1) X.A) (hg : Gl X x) (hm : X.mg x = some (.ref (He.ga X.K C))) (hx : Passes CX X E) (ha : PA X (e :: es) t) (hdb : (x == ("__debug__" : Str)) = false := by decide)
    (he : starEach (e :: es) X.env = (false, eval e X.env) :: starEach es X.env := by rfl) (hpl : (backTo pos (starEach es X.env)).any (·.1) = false := by rfl) :
    PE X (.Call (.Name x p) (e :: es) [] pos) (tMake (He.ga X.K C) sp [] E t) := by
  obtain ⟨fd, hb, F⟩ := F.ex
  exact pe_make M F hr hg hm hb .nil hx ha hdb he hpl
theorem tl_S (l : List Nat) : TL.tl (S l) = l := S_codes l
theorem map_tl_S (ls : List (List Nat)) : (ls.map S).map TL.tl = ls := by
  rw [List.map_map]
  exact (List.map_congr_left fun l _ => tl_S l).trans (List.map_id ls)
theorem join_SP (c : Nat) (ls : List (List Nat)) : Txt.join (S [c]) (ls.map S) = S (TL.joinL [c] ls) := by
  refine TL.ext_tl ?_
  rw [TL.join_eq, TL.tl_join, tl_S, tl_S, map_tl_S]
theorem split_S {c : Nat} (hc : c < 256) {ls : List (List Nat)} (hne : ls ≠ []) (h : ∀ l ∈ ls, c ∉ l) : Txt.split (S (TL.joinL [c] ls)) (S [c]) = ls.map S := by
  rw [← join_SP]
  refine TL.split_join (y := S [c]) (s := c) (S := []) (tl_S _) (by simp [S]; exact hc) (fun z => hne (List.map_eq_nil_iff.mp z)) fun p hp => ?_
  obtain ⟨l, hl, rfl⟩ := List.mem_map.mp hp
  rw [tl_S]
  exact h l hl
/-- a name -/
def Nm (l : List Nat) : Prop := 1 ≤ l.length ∧ l.length ≤ 6 ∧ ∀ c ∈ l, 97 ≤ c ∧ c ≤ 122
theorem Nm.sp {l : List Nat} (h : Nm l) : 32 ∉ l := fun z => by have := h.2.2 _ z; omega
theorem Nm.nl {l : List Nat} (h : Nm l) : 10 ∉ l := fun z => by have := h.2.2 _ z; omega
/-- the laws that the program reads -/
structure LawG (rs : List Row3) : Prop where
  ne : rs ≠ []
  len : rs.length ≤ 64
  nm : ∀ r ∈ rs, Nm r.nm
  u : Uniq rs
  cl : Closed rs
theorem LawG.way {rs : List Row3} (h : LawG rs) {r : Row3} (hr : r ∈ rs) {c : Nat} (hc : c = 110 ∨ c = 102 ∨ c = 115) : Nm (r.way c) := by
  obtain ⟨r2, h2, e⟩ := List.mem_map.mp (h.cl r hr c hc)
  rw [← e]
  exact h.nm r2 h2
theorem Law3.g {rs : List Row3} (h : Law3 rs) : LawG rs := by
  refine ⟨h.ne, Nat.le_trans h.len (by decide), fun r hr => ?_, h.u, h.cl⟩
  obtain ⟨h1, c, e, h2, h3⟩ := nmL_one (h.nm1 hr)
  rw [e]
  exact ⟨Nat.le_refl 1, by show 1 ≤ 6; decide, fun x hx => by rw [List.mem_singleton.mp hx]; omega⟩
/-- the words of a state's lines -/
def stW (r : Row3) : List (List Nat) := [[115, 116, 97, 116, 101], r.nm] ++ (if r.oft then [[111, 102, 116, 101, 110]] else [])
def onW (c : Nat) (w : List Nat) : List (List Nat) := [[111, 110], [c], w]
theorem stL_eq (r : Row3) : stL r = TL.joinL [32] (stW r) := by
  unfold stL stW
  cases r.oft
  · simp [TL.joinL]
  · simp [TL.joinL]
theorem onL_eq (c : Nat) (w : List Nat) : onL c w = TL.joinL [32] (onW c w) := by
  unfold onL onW
  simp [TL.joinL]
theorem stL_split {r : Row3} (h : Nm r.nm) : Txt.split (S (stL r)) (S [32]) = (stW r).map S := by
  rw [stL_eq]
  refine split_S (by decide) (by unfold stW; simp) fun l hl => ?_
  unfold stW at hl
  rcases List.mem_append.mp hl with hl | hl
  · simp only [List.mem_cons, List.not_mem_nil, or_false] at hl
    rcases hl with rfl | rfl
    · decide
    · exact h.sp
  · cases ho : r.oft
    · rw [ho] at hl; cases hl
    · rw [ho, if_pos rfl, List.mem_singleton] at hl
      subst hl
      decide
theorem onL_split {c : Nat} {w : List Nat} (hc : c = 110 ∨ c = 102 ∨ c = 115) (h : Nm w) : Txt.split (S (onL c w)) (S [32]) = (onW c w).map S := by
  rw [onL_eq]
  refine split_S (by decide) (by unfold onW; simp) fun l hl => ?_
  unfold onW at hl
  simp only [List.mem_cons, List.not_mem_nil, or_false] at hl
  rcases hl with rfl | rfl | rfl
  · decide
  · rcases hc with rfl | rfl | rfl <;> decide
  · exact h.sp
/-- the line that stands at the place n of a law's lines -/
def lineF (rs : List Row3) (n : Nat) : List Nat := (linesF rs).getD n []
theorem lines_row {rs : List Row3} : ∀ {k : Nat} {r : Row3} {j : Nat}, rs[k]? = some r → j < 4 → (rs.flatMap rowL)[4 * k + j]? = (rowL r)[j]? := by
  induction rs with
  | nil => intro k r j e; simp at e
  | cons r0 rs ih =>
    intro k r j e hj
    rw [List.flatMap_cons]
    cases k with
    | zero =>
      obtain rfl : r0 = r := Option.some.inj e
      rw [List.getElem?_append_left (by show _ < 4; omega)]
      congr 1
      omega
    | succ k =>
      rw [List.getElem?_append_right (by show 4 ≤ _; omega)]
      rw [show 4 * (k + 1) + j - (rowL r0).length = 4 * k + j by show _ - 4 = _; omega]
      exact ih e hj
theorem lines_at {rs : List Row3} {n : Nat} {l : List Nat} (e : (linesF rs)[n]? = some l) : (n = 0 ∧ l = [108, 97, 119]) ∨ ∃ k r j, n = 4 * k + j + 1 ∧ j < 4 ∧ rs[k]? = some r ∧ (rowL r)[j]? = some l := by
  unfold linesF at e
  cases n with
  | zero => exact .inl ⟨rfl, (Option.some.inj e).symm⟩
  | succ n =>
    right
    rw [List.getElem?_cons_succ] at e
    have hn : n < 4 * rs.length := by
      have := (List.getElem?_eq_some_iff.mp e).1
      have h2 := linesF_len (rs := rs)
      unfold linesF at h2
      rw [List.length_cons] at h2
      omega
    have hk : n / 4 < rs.length := by omega
    refine ⟨n / 4, rs[n / 4], n % 4, by omega, by omega, List.getElem?_eq_getElem hk, ?_⟩
    rw [← lines_row (rs := rs) (k := n / 4) (List.getElem?_eq_getElem hk) (by omega), show 4 * (n / 4) + n % 4 = n by omega]
    exact e
theorem lines_head {rs : List Row3} {k : Nat} {r : Row3} (e : rs[k]? = some r) : (linesF rs)[4 * k + 1]? = some (stL r) := by
  unfold linesF
  rw [List.getElem?_cons_succ, show 4 * k = 4 * k + 0 by omega, lines_row e (by decide)]
  rfl
theorem lines_on {rs : List Row3} {k j : Nat} {r : Row3} {c : Nat} (e : rs[k]? = some r) (hj : [110, 102, 115][j]? = some c) : (linesF rs)[4 * k + 1 + (1 + j)]? = some (onL c (r.way c)) := by
  have hj3 : j < 3 := (List.getElem?_eq_some_iff.mp hj).1
  unfold linesF
  rw [show 4 * k + 1 + (1 + j) = (4 * k + (1 + j)) + 1 by omega, List.getElem?_cons_succ, lines_row e (by omega)]
  match j, hj with
  | 0, hj => cases hj; rfl
  | 1, hj => cases hj; rfl
  | 2, hj => cases hj; rfl
theorem line_nl {rs : List Row3} (h : LawG rs) {l : List Nat} (hl : l ∈ linesF rs) : 10 ∉ l := by
  unfold linesF at hl
  rcases List.mem_cons.mp hl with rfl | hl
  · decide
  · obtain ⟨r, hr, hl⟩ := List.mem_flatMap.mp hl
    have n1 := (h.nm r hr).nl
    have w : ∀ c, c = 110 ∨ c = 102 ∨ c = 115 → 10 ∉ r.way c := fun c hc => (h.way hr hc).nl
    simp only [rowL, List.mem_cons, List.not_mem_nil, or_false] at hl
    rcases hl with rfl | rfl | rfl | rfl
    · unfold stL
      simp only [List.mem_append]
      rintro ((z | z) | z)
      · revert z; decide
      · exact n1 z
      · cases ho : r.oft
        · rw [ho] at z; cases z
        · rw [ho, if_pos rfl] at z; revert z; decide
    · unfold onL; simp only [List.mem_append]
      rintro (((z | z) | z) | z)
      · revert z; decide
      · revert z; decide
      · revert z; decide
      · exact w 110 (.inl rfl) z
    · unfold onL; simp only [List.mem_append]
      rintro (((z | z) | z) | z)
      · revert z; decide
      · revert z; decide
      · revert z; decide
      · exact w 102 (.inr (.inl rfl)) z
    · unfold onL; simp only [List.mem_append]
      rintro (((z | z) | z) | z)
      · revert z; decide
      · revert z; decide
      · revert z; decide
      · exact w 115 (.inr (.inr rfl)) z
theorem line_short {rs : List Row3} (h : LawG rs) {l : List Nat} (hl : l ∈ linesF rs) : l.length ≤ 20 := by
  unfold linesF at hl
  rcases List.mem_cons.mp hl with rfl | hl
  · decide
  · obtain ⟨r, hr, hl⟩ := List.mem_flatMap.mp hl
    have n1 := (h.nm r hr).2.1
    have w : ∀ c, c = 110 ∨ c = 102 ∨ c = 115 → (r.way c).length ≤ 6 := fun c hc => (h.way hr hc).2.1
    simp only [rowL, List.mem_cons, List.not_mem_nil, or_false] at hl
    rcases hl with rfl | rfl | rfl | rfl
    · unfold stL
      simp only [List.length_append]
      cases r.oft <;> simp <;> omega
    · have := w 110 (.inl rfl); simp [onL]; omega
    · have := w 102 (.inr (.inl rfl)); simp [onL]; omega
    · have := w 115 (.inr (.inr rfl)); simp [onL]; omega
theorem text_split {rs : List Row3} (h : LawG rs) : Txt.split (textF rs) (S [10]) = (linesF rs).map S := by
  unfold textF
  rw [join_SP]
  exact split_S (by decide) (by unfold linesF; simp) fun l hl => line_nl h hl
theorem joinL_len (c : Nat) : ∀ ls : List (List Nat), (∀ l ∈ ls, l.length ≤ 20) → (TL.joinL [c] ls).length ≤ 21 * ls.length
  | [], _ => by simp [TL.joinL]
  | [l], h => by have := h l (by simp); simp [TL.joinL]; omega
  | l :: m :: r, h => by
    have h1 := h l (by simp)
    have h2 := joinL_len c (m :: r) fun x hx => h x (List.mem_cons_of_mem _ hx)
    simp only [TL.joinL, List.length_append, List.length_cons, List.length_nil] at h2 ⊢
    omega
theorem text_len {rs : List Row3} (h : LawG rs) : (textF rs).length ≤ 21 * 257 := by
  unfold textF
  rw [join_SP, S_len]
  have h1 := joinL_len 10 (linesF rs) fun l hl => line_short h hl
  rw [linesF_len] at h1
  have := h.len
  omega
theorem r_newS {H : Hp} {Q : VK} {ls : List (List Nat)} (h : ∀ H1 p, Same H H1 → H p = none → H1 p = some (.lst (ls.map fun l => V.str (S l))) → Q (.ref p) H1) : rNewStrs (ls.map S) H Q := fun p hp =>
  h _ p (same_new hp) hp (by rw [upd_same, List.map_map]; rfl)
theorem words_at {ls : List (List Nat)} {j : Nat} {l : List Nat} (e : ls[j]? = some l) : atI (ls.map fun l => V.str (S l)) (j : Int) = some (V.str (S l)) := atI_nat (by rw [List.getElem?_map, e]; rfl)
theorem law_split : Txt.split (S [108, 97, 119]) (S [32]) = ([[108, 97, 119]] : List (List Nat)).map S :=
  split_S (c := 32) (ls := [[108, 97, 119]]) (by decide) (by simp) fun l hl => by rw [List.mem_singleton.mp hl]; decide
theorem stW_f {r : Row3} (h : r.oft = false) : stW r = [[115, 116, 97, 116, 101], r.nm] := by unfold stW; rw [h]; rfl
theorem stW_t {r : Row3} (h : r.oft = true) : stW r = [[115, 116, 97, 116, 101], r.nm, [111, 102, 116, 101, 110]] := by unfold stW; rw [h]; rfl
theorem stW_1 (r : Row3) : (stW r)[1]? = some r.nm := by unfold stW; rfl
theorem stW_len (r : Row3) : decide (V.int (((stW r).map fun l => V.str (S l)).length : Int) = V.int 3) = r.oft := by
  cases h : r.oft
  · rw [stW_f h]; rfl
  · rw [stW_t h]; rfl
theorem vi_ne {a b : Int} (h : a ≠ b) : ¬ V.int a = V.int b := fun z => h (V.int.inj z)
/-- the names seen when a law's lines are read up to the place n -/
theorem seen_head {k : Nat} : (4 * k + 0 + 1 + 2) / 4 = k := by omega
theorem nm_not {rs : List Row3} (u : Uniq rs) {k : Nat} {r : Row3} (e : rs[k]? = some r) : r.nm ∉ (rs.take k).map (·.nm) := fun h => by
  have h1 : rs.take (k + 1) = rs.take k ++ [r] := take_snoc' e
  have h2 : ((rs.take (k + 1)).map (·.nm)).Nodup := List.Sublist.nodup (List.Sublist.map _ (List.take_sublist ..)) u
  rw [h1, List.map_append, List.nodup_append] at h2
  exact h2.2.2 _ h _ (List.mem_singleton.mpr rfl) rfl
theorem line_head_at {rs : List Row3} {i : Nat} {l : List Nat} (e : (linesF rs)[i]? = some l) (h : i % 4 = 1) : ∃ k r, rs[k]? = some r ∧ l = stL r ∧ i = 4 * k + 1 := by
  rcases lines_at e with ⟨rfl, _⟩ | ⟨k, r, j, rfl, hj, er, hr⟩
  · omega
  · obtain rfl : j = 0 := by omega
    exact ⟨k, r, er, (Option.some.inj hr).symm, by omega⟩
theorem line_on_at {rs : List Row3} {i : Nat} {l : List Nat} (e : (linesF rs)[i]? = some l) (h0 : 0 < i) (h : i % 4 ≠ 1) : ∃ r c, r ∈ rs ∧ (c = 110 ∨ c = 102 ∨ c = 115) ∧ l = onL c (r.way c) := by
  rcases lines_at e with ⟨rfl, _⟩ | ⟨k, r, j, rfl, hj, er, hr⟩
  · omega
  · have hm := List.mem_of_getElem? er
    match j, hj, hr with
    | 0, _, _ => omega
    | 1, _, hr => exact ⟨r, 110, hm, .inl rfl, (Option.some.inj hr).symm⟩
    | 2, _, hr => exact ⟨r, 102, hm, .inr (.inl rfl), (Option.some.inj hr).symm⟩
    | 3, _, hr => exact ⟨r, 115, hm, .inr (.inr rfl), (Option.some.inj hr).symm⟩
theorem r_dput {td ty tv : TE} {D : Ends} {σ : L2.St} {H : Hp} (h : tv σ H fun v H1 => td σ H1 fun x H2 => ty σ H2 fun y H3 => ∃ a H4, x = .ref a ∧ DPut H3 a y v H4 ∧ D.nx σ H4) : sDPut td ty tv D σ H := h
theorem r_dc {wi : TI} {g : TG} {tt : TT} {tk tv : TE} {vs : List Nat} {σ : L2.St} {H : Hp} {Q : VK} (h : wi σ H fun J H1 => ∀ D, H1 D = none → ∃ W : Nat → Nat → Hp → Prop, (∃ m, W 0 m (upd H1 D (.dK []))) ∧ ∀ i m H, W i m H →
  (J.stop i H ∧ Q (.ref D) H) ∨ (J.go i H ∧ ∃ Nx : Hp → Prop, (∀ H', Nx H' → ∃ m', m' < m ∧ W (i + 1) m' H') ∧ ∀ x H', J.yld i H x H' → g x (wipe σ vs) H' fun σ2 H2 => wipe σ2 vs = wipe σ vs ∧ tt σ2 H2 fun b H3 =>
    if b = true then tk σ2 H3 fun y H4 => tv σ2 H4 fun z H5 => ∃ kvs k, y = kV k ∧ H5 D = some (.dK kvs) ∧ kvs.length < sizeLine ∧ Nx (upd H5 D (.dK (putK kvs k z))) else Nx H3)) : tDc wi g tt tk tv vs σ H Q := h
theorem r_rng3 {ta : TA} {σ : L2.St} {H : Hp} {R : It → Hp → Prop} (h : ta σ H fun vs H1 => ∃ (i j c : Int) (n : Nat), vs = [.int i, .int j, .int c] ∧ RgC i j c n ∧ R (Itc i c n) H1) : iRng3 ta σ H R := h
theorem r_enX {K : PySem.W.Frag} {ta tk : TA} {σ : L2.St} {H : Hp} {R : It → Hp → Prop} (h : ta σ H fun vs H1 => tk σ H1 fun zs H2 => ∃ x k, vs = [.str x] ∧ zs = [.int k] ∧ -2 ^ 63 ≤ k ∧ k < 2 ^ 63 ∧ R (ItEX k x) H2) : iEnX K ta tk σ H R := h
theorem r_slS3 {K : PySem.W.Frag} {te : TE} {tl th ts : L2.TO} {σ : L2.St} {H : Hp} {Q : VK} (h : te σ H fun x H1 => tl σ H1 fun lo H2 => th σ H2 fun hi H3 => ts σ H3 fun st H4 =>
  ∃ a xs, x = .ref a ∧ SqL K H4 a xs ∧ st ≠ some 0 ∧ ∀ p, H4 p = none → Q (.ref p) (upd H4 p (.lst (pickV xs lo hi st)))) : tSlS K te tl th ts σ H Q := h
theorem r_sfld {K : PySem.W.Frag} {ta tv : TE} {f : Str} {D : Ends} {σ : L2.St} {H : Hp} (h : tv σ H fun y H1 => ta σ H1 fun x H2 => ∃ a C dx fs, x = .ref a ∧ H2 a = some (.ins C dx fs) ∧ Cls K C ∧ NoAttr K C f ∧ fs.length < 1000 ∧
  D.nx σ (upd H2 a (.ins C dx (putF f y fs)))) : sFld K ta tv f D σ H := h
theorem r_fld {K : PySem.W.Frag} {ta : TE} {f : Str} {σ : L2.St} {H : Hp} {Q : VK} (h : ta σ H fun x H1 => ∃ a C dx fs v, x = .ref a ∧ H1 a = some (.ins C dx fs) ∧ Cls K C ∧ NoAttr K C f ∧ fs.lookup f = some v ∧ Q v H1) : tFld K ta f σ H Q := h
theorem dc_J {J : It} {n : Nat} {g : TG} {tt : TT} {tk tv : TE} {vs : List Nat} {σ : L2.St} {H1 : Hp} {D : Addr} {Qd : Hp → Prop} (Pv : Nat → Hp → Prop) (h0 : Pv 0 (upd H1 D (.dK []))) (hgo : ∀ i H, i < n → Pv i H → J.go i H) (hstop : ∀ H, Pv n H → J.stop n H)
    (hs : ∀ (i : Nat) (x : V) (H H' : Hp), i < n → Pv i H → J.yld i H x H' → g x (wipe σ vs) H' fun σ2 H2 => wipe σ2 vs = wipe σ vs ∧ tt σ2 H2 fun b H3 =>
      if b = true then tk σ2 H3 fun y H4 => tv σ2 H4 fun z H5 => ∃ kvs k, y = kV k ∧ H5 D = some (.dK kvs) ∧ kvs.length < sizeLine ∧ Pv (i + 1) (upd H5 D (.dK (putK kvs k z))) else Pv (i + 1) H3) (hd : ∀ H, Pv n H → Qd H) :
    ∃ W : Nat → Nat → Hp → Prop, (∃ m, W 0 m (upd H1 D (.dK []))) ∧ ∀ i m H, W i m H →
      (J.stop i H ∧ Qd H) ∨ (J.go i H ∧ ∃ Nx : Hp → Prop, (∀ H', Nx H' → ∃ m', m' < m ∧ W (i + 1) m' H') ∧ ∀ x H', J.yld i H x H' → g x (wipe σ vs) H' fun σ2 H2 => wipe σ2 vs = wipe σ vs ∧ tt σ2 H2 fun b H3 =>
        if b = true then tk σ2 H3 fun y H4 => tv σ2 H4 fun z H5 => ∃ kvs k, y = kV k ∧ H5 D = some (.dK kvs) ∧ kvs.length < sizeLine ∧ Nx (upd H5 D (.dK (putK kvs k z))) else Nx H3) := by
  refine ⟨fun i m H => m = n - i ∧ i ≤ n ∧ Pv i H, ⟨n, by simp, Nat.zero_le _, h0⟩, ?_⟩
  rintro i m H ⟨rfl, hi, p⟩
  by_cases hlt : i < n
  · exact .inr ⟨hgo i H hlt p, Pv (i + 1), fun H' p' => ⟨n - (i + 1), by omega, rfl, hlt, p'⟩, fun x H' y => hs i x H H' hlt p y⟩
  · have : i = n := by omega
    subst this
    exact .inl ⟨hstop H p, hd H p⟩
theorem dc_enS {k0 : Int} {l : List Nat} {g : TG} {tt : TT} {tk tv : TE} {vs : List Nat} {σ : L2.St} {H1 : Hp} {D : Addr} {Qd : Hp → Prop} (Pv : Nat → Hp → Prop) (h0 : Pv 0 (upd H1 D (.dK [])))
    (hs : ∀ (i c : Nat) (H : Hp) (T : Addr), l[i]? = some c → Pv i H → H T = none → g (.ref T) (wipe σ vs) (upd H T (.tup [.int (k0 + i), .str (S [c])])) fun σ2 H2 => wipe σ2 vs = wipe σ vs ∧ tt σ2 H2 fun b H3 =>
      if b = true then tk σ2 H3 fun y H4 => tv σ2 H4 fun z H5 => ∃ kvs k, y = kV k ∧ H5 D = some (.dK kvs) ∧ kvs.length < sizeLine ∧ Pv (i + 1) (upd H5 D (.dK (putK kvs k z))) else Pv (i + 1) H3) (hd : ∀ H, Pv l.length H → Qd H) :
    ∃ W : Nat → Nat → Hp → Prop, (∃ m, W 0 m (upd H1 D (.dK []))) ∧ ∀ i m H, W i m H →
      ((ItEX k0 (S l)).stop i H ∧ Qd H) ∨ ((ItEX k0 (S l)).go i H ∧ ∃ Nx : Hp → Prop, (∀ H', Nx H' → ∃ m', m' < m ∧ W (i + 1) m' H') ∧ ∀ x H', (ItEX k0 (S l)).yld i H x H' → g x (wipe σ vs) H' fun σ2 H2 => wipe σ2 vs = wipe σ vs ∧ tt σ2 H2 fun b H3 =>
        if b = true then tk σ2 H3 fun y H4 => tv σ2 H4 fun z H5 => ∃ kvs k, y = kV k ∧ H5 D = some (.dK kvs) ∧ kvs.length < sizeLine ∧ Nx (upd H5 D (.dK (putK kvs k z))) else Nx H3) := by
  have sz : (S l).cps.size = l.length := by unfold S; simp
  refine dc_J (n := l.length) Pv h0 (fun i H hi _ => ?_) (fun H _ => ?_) (fun i x H H' hi p y => ?_) hd
  · show i < (S l).cps.size
    rw [sz]; exact hi
  · show (S l).cps.size ≤ l.length
    rw [sz]; exact Nat.le_refl _
  · obtain ⟨T, c, rfl, hT, rfl, e⟩ := y
    exact hs i c H T (by simpa [S] using e) p hT
theorem rg4 {n : Nat} (h : n ≤ 64) : RgC 1 ((1 + 4 * n : Nat) : Int) 4 n := by
  have e : ∀ n : Nat, n < 65 → (Builtin.Range.small 1 ((1 + 4 * n : Nat) : Int) 4 = true ∧ Builtin.Range.rangeSize 1 ((1 + 4 * n : Nat) : Int) 4 = (n : Int)) := by decide +kernel
  exact ⟨by decide, by decide, (e n (by omega)).1, (e n (by omega)).2⟩
theorem putK_new {κ : Type} [DecidableEq κ] {kvs : List (κ × V)} {k : κ} {v : V} (h : k ∉ kvs.map (·.1)) : putK kvs k v = kvs ++ [(k, v)] := by
  unfold putK
  rw [if_neg]
  intro z
  obtain ⟨p, hp, e⟩ := List.any_eq_true.mp z
  exact h (List.mem_map.mpr ⟨p, hp, of_decide_eq_true e⟩)
theorem nfs_new {j c : Nat} {f : Nat → List Nat} (e : ([110, 102, 115] : List Nat)[j]? = some c) : putK ((([110, 102, 115] : List Nat).take j).map fun c => ((Sum.inr (S [c]) : Key), V.str (S (f c)))) (Sum.inr (S [c])) (.str (S (f c))) = (([110, 102, 115] : List Nat).take (j + 1)).map fun c => (Sum.inr (S [c]), V.str (S (f c))) := by
  rw [putK_new, take_snoc' e, List.map_append]
  · rfl
  · have hj : j < 3 := (List.getElem?_eq_some_iff.mp e).1
    rw [List.map_map]
    intro h
    obtain ⟨d, hd, hc⟩ := List.mem_map.mp h
    have hc2 : c = d := by
      have := Sum.inr.inj hc
      have h2 := congrArg (fun z : Str => z.cps.toList) this
      simpa [S] using h2.symm
    subst hc2
    match j, e with
    | 0, e => cases hd
    | 1, e => cases e; revert hd; decide
    | 2, e => cases e; revert hd; decide
theorem ways_new {rs : List Row3} {H : Hp} {kvs : List (Key × V)} {i : Nat} {r : Row3} {v : V} (u : Uniq rs) (hk : Paired (WRow H) (rs.take i) kvs) (er : rs[i]? = some r) : putK kvs (.inr (S r.nm)) v = kvs ++ [(.inr (S r.nm), v)] := by
  refine putK_new fun h => ?_
  rw [ways_keys hk] at h
  obtain ⟨d, hd, hc⟩ := List.mem_map.mp h
  have h2 := congrArg (fun z : Str => z.cps.toList) (Sum.inr.inj hc)
  have h3 : d.nm = r.nm := by simpa [S] using h2
  exact nm_not u er (List.mem_map.mpr ⟨d, hd, h3⟩)
theorem ways_not {rs : List Row3} {H : Hp} {kvs : List (Key × V)} {f : Nat → List Nat} {d p : Addr} (hk : Paired (WRow H) rs kvs) (e : H p = some (.dK kvs)) (h : H d = some (.dK (wK f))) : d ≠ p := fun z => by
  subst z
  rw [e] at h
  have : kvs = wK f := by injection h with h; injection h
  obtain ⟨r, _, d2, e2, _⟩ := paired_get hk (i := 0) (y := (.inr (S [110]), .str (S (f 110)))) (by rw [this]; rfl)
  cases (Prod.mk.inj e2).2
/-- an object of the class C, which is a law -/
def RuleAt (C : Addr) (H : Hp) (x : Addr) (rs : List Row3) : Prop := ∃ dx n o m st, H x = some (.ins C dx [("text", .str (textF rs)), ("names", .ref n), ("often", .ref o), ("marked", .ref m), ("steps", .ref st)]) ∧
  H n = some (.tup ((rs.map (·.nm)).map fun l => V.str (S l))) ∧ H o = some (.tup ((oftens rs).map fun l => V.str (S l))) ∧ H m = some (.dK (rs.map fun r => (.inr (S r.nm), .bl r.oft))) ∧ WaysAt H st rs
theorem RuleAt.same {C : Addr} {H H1 : Hp} {x : Addr} {rs : List Row3} (e : Same H H1) (h : RuleAt C H x rs) : RuleAt C H1 x rs := by
  obtain ⟨dx, n, o, m, st, h1, h2, h3, h4, h5⟩ := h
  exact ⟨dx, n, o, m, st, e _ _ h1, e _ _ h2, e _ _ h3, e _ _ h4, h5.same e⟩
theorem range_pick {α : Type} {rs : List Row3} {f : Nat → Option α} {h : Row3 → α} (e : ∀ k r, rs[k]? = some r → f k = some (h r)) : ∀ n, n ≤ rs.length → (List.range n).filterMap f = (rs.take n).map h
  | 0, _ => by simp
  | n + 1, hn => by
    have e1 : rs[n]? = some rs[n] := List.getElem?_eq_getElem hn
    rw [List.range_succ, List.filterMap_append, range_pick e n (by omega), take_snoc' e1, List.map_append]
    simp [e n _ e1]
theorem heads_pick {rs : List Row3} (h : rs.length ≤ 64) : pickV ((linesF rs).map fun l => V.str (S l)) (some 1) none (some 4) = rs.map fun r => V.str (S (stL r)) := by
  have e : ∀ n : Nat, n < 65 → sliceRange (sliceBounds (some 1) none (some 4) (1 + 4 * n)).1 (sliceBounds (some 1) none (some 4) (1 + 4 * n)).2.1 (sliceBounds (some 1) none (some 4) (1 + 4 * n)).2.2 = (List.range n).map fun k => 4 * k + 1 := by decide +kernel
  unfold pickV
  rw [List.length_map, linesF_len, e _ (by omega), List.filterMap_map]
  have := range_pick (rs := rs) (f := fun k => ((linesF rs).map fun l => V.str (S l))[4 * k + 1]?) (h := fun r => V.str (S (stL r))) (fun k r er => by rw [List.getElem?_map, lines_head er]; rfl) rs.length (Nat.le_refl _)
  rw [List.take_length] at this
  exact this
/-- what is at hand while a law's object is filled -/
structure IniC (x D p1 : Addr) (ps : List Addr) (rs : List Row3) (H X : Hp) : Prop where
  b : But x H X
  d : X D = some (.lst (ps.map V.ref))
  h : Paired (fun r p => X p = some (.lst ((stW r).map fun l => V.str (S l)))) rs ps
  l : X p1 = some (.lst ((linesF rs).map fun l => V.str (S l)))
section
variable {x D p1 C dx : Addr} {ps : List Addr} {rs : List Row3} {H X Y : Hp} {fs gs : List (Str × V)}
theorem IniC.same (m : IniC x D p1 ps rs H X) (e : Same X Y) : IniC x D p1 ps rs H Y := ⟨m.b.trans (But.of e), e _ _ m.d, m.h.mono fun _ _ h => e _ _ h, e _ _ m.l⟩
theorem not_ins {p : Addr} {ys : List V} (hx : X x = some (.ins C dx fs)) (h : X p = some (.lst ys)) : p ≠ x := fun z => by subst z; rw [hx] at h; cases h
theorem IniC.put (m : IniC x D p1 ps rs H X) (hx : X x = some (.ins C dx fs)) : IniC x D p1 ps rs H (upd X x (.ins C dx gs)) :=
  ⟨m.b.put, (upd_ne (not_ins hx m.d)).trans m.d, m.h.mono fun _ _ h => (upd_ne (not_ins hx h)).trans h, (upd_ne (not_ins hx m.l)).trans m.l⟩
end
theorem oftens_snoc {rs : List Row3} {r : Row3} : oftens (rs ++ [r]) = oftens rs ++ (if r.oft = true then [r.nm] else []) := by
  unfold oftens
  rw [List.filter_append, List.map_append]
  cases h : r.oft
  · simp [h]
  · simp [h]
theorem mark_new {rs : List Row3} {i : Nat} {r : Row3} {v : V} (u : Uniq rs) (er : rs[i]? = some r) : putK ((rs.take i).map fun r => ((.inr (S r.nm) : Key), V.bl r.oft)) (.inr (S r.nm)) v = ((rs.take i).map fun r => (.inr (S r.nm), V.bl r.oft)) ++ [(.inr (S r.nm), v)] := by
  refine putK_new fun h => ?_
  rw [List.map_map] at h
  obtain ⟨d, hd, hc⟩ := List.mem_map.mp h
  have h2 := congrArg (fun z : Str => z.cps.toList) (Sum.inr.inj hc)
  have h3 : d.nm = r.nm := by simpa [S] using h2
  exact nm_not u er (List.mem_map.mpr ⟨d, hd, h3⟩)
theorem dc_list {K : PySem.W.Frag} {a : Addr} {xs : List V} {g : TG} {tt : TT} {tk tv : TE} {vs : List Nat} {σ : L2.St} {H1 : Hp} {D : Addr} {Qd : Hp → Prop} (Pv : Nat → Hp → Prop) (h0 : Pv 0 (upd H1 D (.dK []))) (hl : ∀ i H, Pv i H → SqL K H a xs)
    (hs : ∀ i x H, xs[i]? = some x → Pv i H → g x (wipe σ vs) H fun σ2 H2 => wipe σ2 vs = wipe σ vs ∧ tt σ2 H2 fun b H3 =>
      if b = true then tk σ2 H3 fun y H4 => tv σ2 H4 fun z H5 => ∃ kvs k, y = kV k ∧ H5 D = some (.dK kvs) ∧ kvs.length < sizeLine ∧ Pv (i + 1) (upd H5 D (.dK (putK kvs k z))) else Pv (i + 1) H3) (hd : ∀ H, Pv xs.length H → Qd H) :
    ∃ W : Nat → Nat → Hp → Prop, (∃ m, W 0 m (upd H1 D (.dK []))) ∧ ∀ i m H, W i m H →
      ((Itl K a).stop i H ∧ Qd H) ∨ ((Itl K a).go i H ∧ ∃ Nx : Hp → Prop, (∀ H', Nx H' → ∃ m', m' < m ∧ W (i + 1) m' H') ∧ ∀ x H', (Itl K a).yld i H x H' → g x (wipe σ vs) H' fun σ2 H2 => wipe σ2 vs = wipe σ vs ∧ tt σ2 H2 fun b H3 =>
        if b = true then tk σ2 H3 fun y H4 => tv σ2 H4 fun z H5 => ∃ kvs k, y = kV k ∧ H5 D = some (.dK kvs) ∧ kvs.length < sizeLine ∧ Nx (upd H5 D (.dK (putK kvs k z))) else Nx H3) := by
  refine dc_J (n := xs.length) Pv h0 (fun i H hi p => ?_) (fun H p => ?_) (fun i x H H' hi p y => ?_) hd
  · exact ⟨xs, xs[i], hl i H p, List.getElem?_eq_getElem hi⟩
  · exact ⟨xs, hl _ H p, Nat.le_refl _⟩
  · obtain ⟨rfl, f⟩ := y
    exact hs i x H' (f xs (hl i H' p)) p
theorem law_fields (a b c d e : V) : putF "steps" e (putF "marked" d (putF "often" c (putF "names" b (putF "text" a [])))) = [(("text" : Str), a), ("names", b), ("often", c), ("marked", d), ("steps", e)] := by
  have n1 : ¬ ("text" : Str) = "names" := by decide
  have n2 : ¬ ("text" : Str) = "often" := by decide
  have n3 : ¬ ("text" : Str) = "marked" := by decide
  have n4 : ¬ ("text" : Str) = "steps" := by decide
  have n5 : ¬ ("names" : Str) = "often" := by decide
  have n6 : ¬ ("names" : Str) = "marked" := by decide
  have n7 : ¬ ("names" : Str) = "steps" := by decide
  have n8 : ¬ ("often" : Str) = "marked" := by decide
  have n9 : ¬ ("often" : Str) = "steps" := by decide
  have n0 : ¬ ("marked" : Str) = "steps" := by decide
  simp only [putF, if_neg n1, if_neg n2, if_neg n3, if_neg n4, if_neg n5, if_neg n6, if_neg n7, if_neg n8, if_neg n9, if_neg n0]
theorem putF_len (f : Str) (v : V) : ∀ fs : List (Str × V), (putF f v fs).length ≤ fs.length + 1
  | [] => by simp [putF]
  | (g, x) :: r => by
    have := putF_len f v r
    unfold putF
    split <;> simp <;> omega
theorem len_fs (f : Str) (v : V) {fs : List (Str × V)} {k : Nat} (h : fs.length ≤ k) (hk : k < 900) : (putF f v fs).length ≤ k + 1 ∧ (putF f v fs).length < 1000 := by
  have := putF_len f v fs
  omega
section
variable {C : Addr} {H : Hp} {x : Addr} {rs : List Row3}
theorem RuleAt.steps (h : RuleAt C H x rs) : ∃ dx fs st, H x = some (.ins C dx fs) ∧ fs.lookup ("steps" : Str) = some (V.ref st) ∧ WaysAt H st rs := by
  obtain ⟨dx, n, o, m, st, h1, h2, h3, h4, h5⟩ := h
  exact ⟨dx, _, st, h1, rfl, h5⟩
theorem RuleAt.names (h : RuleAt C H x rs) : ∃ dx fs n, H x = some (.ins C dx fs) ∧ fs.lookup ("names" : Str) = some (V.ref n) ∧ H n = some (.tup ((rs.map (·.nm)).map fun l => V.str (S l))) := by
  obtain ⟨dx, n, o, m, st, h1, h2, h3, h4, h5⟩ := h
  exact ⟨dx, _, n, h1, rfl, h2⟩
theorem RuleAt.often (h : RuleAt C H x rs) : ∃ dx fs n, H x = some (.ins C dx fs) ∧ fs.lookup ("often" : Str) = some (V.ref n) ∧ H n = some (.tup ((oftens rs).map fun l => V.str (S l))) := by
  obtain ⟨dx, n, o, m, st, h1, h2, h3, h4, h5⟩ := h
  exact ⟨dx, _, o, h1, rfl, h3⟩
theorem RuleAt.marked (h : RuleAt C H x rs) : ∃ dx fs n, H x = some (.ins C dx fs) ∧ fs.lookup ("marked" : Str) = some (V.ref n) ∧ H n = some (.dK (rs.map fun r => (.inr (S r.nm), .bl r.oft))) := by
  obtain ⟨dx, n, o, m, st, h1, h2, h3, h4, h5⟩ := h
  exact ⟨dx, _, m, h1, rfl, h4⟩
theorem RuleAt.text (h : RuleAt C H x rs) : ∃ dx fs, H x = some (.ins C dx fs) ∧ fs.lookup ("text" : Str) = some (V.str (textF rs)) := by
  obtain ⟨dx, n, o, m, st, h1, h2, h3, h4, h5⟩ := h
  exact ⟨dx, _, h1, rfl⟩
theorem mark_get {p : Addr} {s : List Nat} (u : Uniq rs) (h : H p = some (.dK (rs.map fun r => (.inr (S r.nm), .bl r.oft)))) (hs : s ∈ rs.map (·.nm)) : DGet H p (.str (S s)) (some (.bl (oftF rs s))) := by
  have e : valV (rs.map fun r => ((.inr (S r.nm) : Key), V.bl r.oft)) (.inr (S s)) = some (.bl (oftF rs s)) := by
    obtain ⟨r, hr, rfl⟩ := List.mem_map.mp hs
    rw [oft_of u hr]
    clear h
    induction rs with
    | nil => cases hr
    | cons r0 rs ih =>
      rw [List.map_cons, valV_cons]
      have u2 : (r0.nm :: rs.map (·.nm)).Nodup := u
      rcases List.mem_cons.mp hr with rfl | h2
      · rw [if_pos rfl]
      · rw [if_neg, ih (List.nodup_cons.mp u2).2 h2 (List.mem_map.mpr ⟨r, h2, rfl⟩)]
        intro z
        have h3 := congrArg (fun z : Str => z.cps.toList) (Sum.inr.inj z)
        have h4 : r0.nm = r.nm := by simpa [S] using h3
        exact (List.nodup_cons.mp u2).1 (h4 ▸ List.mem_map.mpr ⟨r, h2, rfl⟩)
  rw [← e]
  exact DGet.k (k := .inr (S s)) h
end
/-- the states behind each letter -/
def alongF (rs : List Row3) (s : List Nat) (w : List Nat) : List (List Nat) := (List.range w.length).map fun i => runF rs s (w.take (i + 1))
theorem along_len {rs : List Row3} {s w : List Nat} : (alongF rs s w).length = w.length := by unfold alongF; simp
theorem along_snoc {rs : List Row3} {s w : List Nat} {c : Nat} : alongF rs s (w ++ [c]) = alongF rs s w ++ [runF rs s (w ++ [c])] := by
  unfold alongF
  rw [List.length_append, List.length_singleton, List.range_succ, List.map_append]
  congr 1
  · refine List.map_congr_left fun i hi => ?_
    have := List.mem_range.mp hi
    rw [List.take_append_of_le_length (by omega)]
  · rw [List.map_singleton, List.take_of_length_le (by simp)]
theorem pe_fldK {X : Cx} {K : PySem.W.Frag} {e : Expr} {f : Str} {pos : Pos} {ta : TE} (hK : X.K = K) (he : PE X e ta) (hb : attributeBase e f X.env (eval e X.env) = eval e X.env) : PE X (.Attribute e f pos) (tFld K ta f) := hK ▸ pe_fld he hb
theorem r_din {ty td : TE} {σ : L2.St} {H : Hp} {Q : VK} (h : ty σ H fun y H1 => td σ H1 fun x H2 => ∃ a o, x = .ref a ∧ DGet H2 a y o ∧ Q (.bl o.isSome) H2) : tDIn ty td σ H Q := h
theorem r_dnotin {ty td : TE} {σ : L2.St} {H : Hp} {Q : VK} (h : ty σ H fun y H1 => td σ H1 fun x H2 => ∃ a o, x = .ref a ∧ DGet H2 a y o ∧ Q (.bl (!o.isSome)) H2) : tDNotIn ty td σ H Q := h
theorem r_while {c : TT} {tb : TS} {D : Ends} {σ : L2.St} {H : Hp} (h : ∃ W : Nat → L2.St → Hp → Prop, (∃ m, W m σ H) ∧ ∀ m σ H, W m σ H →
  c σ H fun b H1 => if b = true then ∃ N : L2.St → Hp → Prop, (∀ σ' H', N σ' H' → ∃ m', m' < m ∧ W m' σ' H') ∧ tb { D with nx := N, ct := N, bk := D.nx } σ H1 else D.nx σ H1) : tWhile c tb D σ H := h
theorem valV_mem {κ : Type} [DecidableEq κ] {kvs : List (κ × V)} {k : κ} {v : V} (nd : (kvs.map (·.1)).Nodup) (h : (k, v) ∈ kvs) : valV kvs k = some v := by
  induction kvs with
  | nil => cases h
  | cons p r ih =>
    obtain ⟨q, x⟩ := p
    rw [valV_cons]
    rw [List.map_cons, List.nodup_cons] at nd
    rcases List.mem_cons.mp h with e | h2
    · cases e
      rw [if_pos rfl]
    · rw [if_neg, ih nd.2 h2]
      rintro rfl
      exact nd.1 (List.mem_map.mpr ⟨(q, v), h2, rfl⟩)
theorem valV_not {κ : Type} [DecidableEq κ] {kvs : List (κ × V)} {k : κ} (h : k ∉ kvs.map (·.1)) : valV kvs k = none := by
  induction kvs with
  | nil => rfl
  | cons p r ih =>
    obtain ⟨q, x⟩ := p
    rw [List.map_cons, List.mem_cons] at h
    rw [valV_cons, if_neg (fun z => h (.inl z.symm)), ih fun z => h (.inr z)]
theorem keyS_inj {a b : List Nat} (h : (Sum.inr (S a) : Key) = .inr (S b)) : a = b := by
  have h2 := congrArg (fun z : Str => z.cps.toList) (Sum.inr.inj h)
  simpa [S] using h2
section
variable {rs : List Row3} {h r : List Nat}
def lapsF (rs : List Row3) (h r : List Nat) (k : Nat) : List (List Nat) := (List.range k).map (lapS rs h r)
def turnsK (rs : List Row3) (h r : List Nat) (k : Nat) : List (Key × V) := (List.range k).map fun j => (.inr (S (lapS rs h r j)), .int j)
theorem turns_keys (k : Nat) : (turnsK rs h r k).map (·.1) = (lapsF rs h r k).map fun l => Sum.inr (S l) := by unfold turnsK lapsF; rw [List.map_map, List.map_map]; rfl
theorem turns_nodup {k : Nat} (nd : (lapsF rs h r k).Nodup) : ((turnsK rs h r k).map (·.1)).Nodup := by
  rw [turns_keys]
  exact List.Pairwise.map _ (fun a b h z => h (keyS_inj z)) nd
theorem turns_get {k j : Nat} (nd : (lapsF rs h r k).Nodup) (hj : j < k) : valV (turnsK rs h r k) (.inr (S (lapS rs h r j))) = some (.int j) :=
  valV_mem (turns_nodup nd) (List.mem_map.mpr ⟨j, List.mem_range.mpr hj, rfl⟩)
theorem turns_not {k : Nat} {s : List Nat} (hn : s ∉ lapsF rs h r k) : valV (turnsK rs h r k) (.inr (S s)) = none := valV_not fun z => by
  rw [turns_keys] at z
  obtain ⟨a, ha, e⟩ := List.mem_map.mp z
  exact hn (keyS_inj e ▸ ha)
theorem turns_put {k : Nat} (hn : lapS rs h r k ∉ lapsF rs h r k) : putK (turnsK rs h r k) (.inr (S (lapS rs h r k))) (.int k) = turnsK rs h r (k + 1) := by
  rw [putK_new]
  · unfold turnsK
    rw [List.range_succ, List.map_append]
    rfl
  · rw [turns_keys]
    intro z
    obtain ⟨a, ha, e⟩ := List.mem_map.mp z
    exact hn (keyS_inj e ▸ ha)
theorem laps_snoc (k : Nat) : lapsF rs h r (k + 1) = lapsF rs h r k ++ [lapS rs h r k] := by unfold lapsF; rw [List.range_succ, List.map_append]; rfl
theorem laps_nodup {k : Nat} (nd : (lapsF rs h r k).Nodup) (hn : lapS rs h r k ∉ lapsF rs h r k) : (lapsF rs h r (k + 1)).Nodup := by
  rw [laps_snoc, List.nodup_append]
  refine ⟨nd, by simp, fun a ha b hb e => ?_⟩
  rw [List.mem_singleton] at hb
  subst hb
  exact hn (e ▸ ha)
theorem lapS_mem (hne : rs ≠ []) (hc : Closed rs) (wh : Wd h) (wr : Wd r) : ∀ k, lapS rs h r k ∈ rs.map (·.nm)
  | 0 => by rw [lapS_zero]; exact runF_mem hc wh (first_mem hne)
  | k + 1 => by rw [lapS_succ]; exact runF_mem hc wr (lapS_mem hne hc wh wr k)
theorem laps_le (hne : rs ≠ []) (hc : Closed rs) (wh : Wd h) (wr : Wd r) {k : Nat} (nd : (lapsF rs h r k).Nodup) : k ≤ rs.length := by
  have := nodup_le _ (rs.map (·.nm)) nd fun a ha => by
    obtain ⟨j, _, rfl⟩ := List.mem_map.mp ha
    exact lapS_mem hne hc wh wr j
  unfold lapsF at this
  simpa using this
theorem hits_along (s : List Nat) : ((alongF rs s r).map (oftF rs)).any id = hits rs s r := by
  unfold alongF hits
  rw [Bool.eq_iff_iff, decide_eq_true_eq, List.any_eq_true]
  constructor
  · rintro ⟨b, hb, e⟩
    rw [List.map_map] at hb
    obtain ⟨i, hi, rfl⟩ := List.mem_map.mp hb
    exact ⟨i, List.mem_range.mp hi, e⟩
  · rintro ⟨i, hi, e⟩
    exact ⟨_, by rw [List.map_map]; exact List.mem_map.mpr ⟨i, List.mem_range.mpr hi, rfl⟩, e⟩
theorem along_last {s : List Nat} (r0 : r ≠ []) : ∃ pre, alongF rs s r = pre ++ [runF rs s r] := by
  obtain ⟨v, c, rfl⟩ : ∃ v c, r = v ++ [c] := ⟨r.dropLast, r.getLast r0, (List.dropLast_concat_getLast r0).symm⟩
  exact ⟨_, along_snoc⟩
theorem along_mem (hc : Closed rs) {s : List Nat} (hs : s ∈ rs.map (·.nm)) (wr : Wd r) {a : List Nat} (ha : a ∈ alongF rs s r) : a ∈ rs.map (·.nm) := by
  obtain ⟨i, _, rfl⟩ := List.mem_map.mp ha
  exact runF_mem hc (wr.take _) hs
def marksF (rs : List Row3) (h r : List Nat) (k : Nat) : List Bool := (List.range k).map (lapHit rs h r)
theorem marks_snoc (k : Nat) : marksF rs h r (k + 1) = marksF rs h r k ++ [lapHit rs h r k] := by unfold marksF; rw [List.range_succ, List.map_append]; rfl
theorem marks_len (k : Nat) : (marksF rs h r k).length = k := by unfold marksF; simp
theorem marks_any {t k : Nat} : ((marksF rs h r k).drop t).any id = true ↔ ∃ j, t ≤ j ∧ j < k ∧ lapHit rs h r j = true := by
  rw [List.any_eq_true]
  constructor
  · rintro ⟨b, hb, e⟩
    obtain ⟨i, hi, e2⟩ := List.mem_iff_getElem.mp hb
    rw [List.getElem_drop] at e2
    unfold marksF at e2 hi
    rw [List.length_drop, List.length_map, List.length_range] at hi
    simp only [List.getElem_map, List.getElem_range] at e2
    exact ⟨t + i, by omega, by omega, e2.trans e⟩
  · rintro ⟨j, h1, h2, e⟩
    refine ⟨true, List.mem_iff_getElem.mpr ⟨j - t, by rw [List.length_drop, marks_len]; omega, ?_⟩, rfl⟩
    rw [List.getElem_drop]
    unfold marksF
    simp only [List.getElem_map, List.getElem_range]
    rw [show t + (j - t) = j by omega]
    exact e
end
theorem ints_lay : ∀ ks : List Nat, PyData.canLayAll0 (ks.map fun (k : Nat) => PyData.int k) = true
  | [] => by simp [PyData.canLayAll0]
  | k :: ks => by simp [PyData.canLayAll0, PyData.canLay0, ints_lay ks]
theorem ints_depth : ∀ ks : List Nat, PyData.depthAll (ks.map fun (k : Nat) => PyData.int k) ≤ 1
  | [] => by simp [PyData.depthAll]
  | k :: ks => by have := ints_depth ks; simp [PyData.depthAll, PyData.depth]; try omega
theorem ints_dp {K : PySem.W.Frag} {H : Hp} : ∀ ks : List Nat, DpAll K H (ks.map fun (k : Nat) => V.int k) (ks.map fun (k : Nat) => PyData.int k)
  | [] => .nil
  | k :: ks => .cons (.int _) (ints_dp ks)
theorem r_neE {K : PySem.W.Frag} {H : Hp} {Q : VK} {a b : Addr} {ks : List Nat} (h1 : H a = some (.lst (ks.map fun (k : Nat) => V.int k))) (h2 : H b = some (.lst [])) (q : Q (.bl (!ks.isEmpty)) H) : rNeD K (.ref a) (.ref b) H Q := by
  refine ⟨_, _, .lst (SqL.of h1) (ints_dp ks), .lst (SqL.of h2) .nil, ?_, ?_, ?_⟩
  · unfold SeqAt.shaped
    have := ints_depth ks
    simp [PyData.canLay0, PyData.depth, ints_lay]
    omega
  · unfold SeqAt.shaped
    simp only [PyData.canLay0, PyData.canLayAll0, PyData.depth, PyData.depthAll]
    rfl
  · have e : PyData.eqv (.list (ks.map fun (k : Nat) => PyData.int k)) (.list []) = ks.isEmpty := by
      cases ks with
      | nil => simp [PyData.eqv, PyData.eqvAll]
      | cons _ _ => simp [PyData.eqv, PyData.eqvAll]
    rw [e]
    exact q
/-! ### drawing a loss that is let -/
theorem names_pot {X : Hp} {a lv : Addr} {c : Int} {L : List (List Nat)} (hP : PotAt X a c) (h : X lv = some (.lst (L.map fun l => V.str (S l)))) : lv ≠ a := fun z => by
  subst z
  obtain ⟨ow, sd, n, hA, _⟩ := hP
  rw [hA] at h
  have : [V.int ow, .int sd, .int n] = L.map fun l => V.str (S l) := by injection h with h; injection h
  cases L with
  | nil => cases this
  | cons x xs => cases (List.cons.inj this).1
theorem pot_lst {X : Hp} {a b : Addr} {c : Int} {o : HO} (hP : PotAt X a c) (h : X b = some o) (n : ∀ ys, o ≠ .lst ys) : b ≠ a := fun z => by
  subst z
  obtain ⟨ow, sd, m, hA, _⟩ := hP
  rw [hA] at h
  exact n _ (Option.some.inj h).symm
theorem WaysAt.but {H H1 : Hp} {a p : Addr} {c : Int} {rs : List Row3} (e : But a H H1) (hP : PotAt H a c) (h : WaysAt H p rs) : WaysAt H1 p rs := by
  obtain ⟨kvs, hk, hp⟩ := h
  refine ⟨kvs, e _ _ (pot_lst hP hk fun _ z => by cases z) hk, hp.mono fun r kv h => ?_⟩
  obtain ⟨d, h1, h2⟩ := h
  exact ⟨d, h1, e _ _ (pot_lst hP h2 fun _ z => by cases z) h2⟩
/-- what stands while a loss is drawn -/
structure LdB (o lv p D : Addr) (rs : List Row3) (Lv : List (List Nat)) (B : Hp) : Prop where
  o : OwnH B o rs
  l : B lv = some (.lst (Lv.map fun l => V.str (S l)))
  w : WaysAt B p rs
  d : B D = some (.lst ((oftens rs).map fun l => V.str (S l)))
theorem LdB.at {o lv p D a : Addr} {c : Int} {rs : List Row3} {Lv : List (List Nat)} {B X : Hp} (m : LdB o lv p D rs Lv B) (hP : PotAt B a c) (e : But a B X) : LdB o lv p D rs Lv X :=
  ⟨m.o.but e hP, e _ _ (names_pot hP m.l) m.l, m.w.but e hP, e _ _ (names_pot hP m.d) m.d⟩
theorem LdB.same {o lv p D : Addr} {rs : List Row3} {Lv : List (List Nat)} {B X : Hp} (m : LdB o lv p D rs Lv B) (e : Same B X) : LdB o lv p D rs Lv X :=
  ⟨m.o.same e, e _ _ m.l, m.w.same e, e _ _ m.d⟩
/-- a list of (place, state) -/
def SeenAt (X : Hp) (Sn : Addr) (L : List (Nat × List Nat)) : Prop := ∃ ts : List Addr, X Sn = some (.lst (ts.map V.ref)) ∧ Paired (fun e t => X t = some (.tup [.int (e.1 : Nat), .str (S e.2)])) L ts
theorem SeenAt.same {X Y : Hp} {Sn : Addr} {L : List (Nat × List Nat)} (e : Same X Y) (h : SeenAt X Sn L) : SeenAt Y Sn L := by
  obtain ⟨ts, h1, h2⟩ := h
  exact ⟨ts, e _ _ h1, h2.mono fun _ _ h => e _ _ h⟩
theorem SeenAt.but {X Y : Hp} {a Sn : Addr} {c : Int} {L : List (Nat × List Nat)} (e : But a X Y) (hP : PotAt X a c) (n : Sn ≠ a) (h : SeenAt X Sn L) : SeenAt Y Sn L := by
  obtain ⟨ts, h1, h2⟩ := h
  exact ⟨ts, e _ _ n h1, h2.mono fun _ t h => e _ _ (pot_lst hP h fun _ z => by cases z) h⟩
theorem SeenAt.add {X : Hp} {Sn t : Addr} {L : List (Nat × List Nat)} {k : Nat} {s : List Nat} {ts : List Addr} (h1 : X Sn = some (.lst (ts.map V.ref))) (h2 : Paired (fun e t => X t = some (.tup [.int (e.1 : Nat), .str (S e.2)])) L ts) (ht : X t = some (.tup [.int (k : Nat), .str (S s)])) :
    SeenAt (upd X Sn (.lst (ts.map V.ref ++ [.ref t]))) Sn (L ++ [(k, s)]) := by
  have keep : ∀ b ys, X b = some (.tup ys) → (upd X Sn (.lst (ts.map V.ref ++ [.ref t]))) b = some (.tup ys) := fun b ys h => (upd_ne fun z => by subst z; rw [h1] at h; cases h).trans h
  exact ⟨ts ++ [t], by rw [upd_same, List.map_append]; rfl, (h2.mono fun _ _ h => keep _ _ h).snoc (keep _ _ ht)⟩
theorem RuleAt.but {C : Addr} {H H1 : Hp} {a x : Addr} {c : Int} {rs : List Row3} (e : But a H H1) (hP : PotAt H a c) (h : RuleAt C H x rs) : RuleAt C H1 x rs := by
  obtain ⟨dx, n, o, m, st, h1, h2, h3, h4, h5⟩ := h
  exact ⟨dx, n, o, m, st, e _ _ (pot_lst hP h1 fun _ z => by cases z) h1, e _ _ (pot_lst hP h2 fun _ z => by cases z) h2, e _ _ (pot_lst hP h3 fun _ z => by cases z) h3, e _ _ (pot_lst hP h4 fun _ z => by cases z) h4, h5.but e hP⟩
/-- a drawn loss -/
def LossH (X : Hp) (t : Addr) : Prop := ∃ h r, X t = some (.tup [.str (S h), .str (S r)]) ∧ Wd h ∧ Wd r ∧ r ≠ [] ∧ h.length ≤ 12 ∧ r.length ≤ 12
theorem LossH.same {X Y : Hp} {t : Addr} (e : Same X Y) (h : LossH X t) : LossH Y t := by
  obtain ⟨h, r, h1, h2⟩ := h
  exact ⟨h, r, e _ _ h1, h2⟩
theorem LossH.but {X Y : Hp} {a t : Addr} {c : Int} (e : But a X Y) (hP : PotAt X a c) (h : LossH X t) : LossH Y t := by
  obtain ⟨h, r, h1, h2⟩ := h
  exact ⟨h, r, e _ _ (pot_lst hP h1 fun _ z => by cases z) h1, h2⟩
theorem LossH.lst {X : Hp} {t D : Addr} {xs ys : List V} (hD : X D = some (.lst xs)) (h : LossH X t) : LossH (upd X D (.lst ys)) t := by
  obtain ⟨h, r, h1, h2⟩ := h
  exact ⟨h, r, (upd_ne fun z => by subst z; rw [hD] at h1; cases h1).trans h1, h2⟩
def LossesH (X : Hp) (p : Addr) (n : Nat) : Prop := ∃ ts : List Addr, X p = some (.lst (ts.map V.ref)) ∧ ts.length ≤ n ∧ ∀ t ∈ ts, LossH X t
theorem r_make {C : Addr} {sp : Sp} {dvs : List V} {E : XK} {t : TA} {σ : L2.St} {H : Hp} {Q : VK} (h : t σ H fun vs H1 => ∀ x dx, H1 x = none → H1 dx = none → dx ≠ x →
  sp (.ref x :: (vs ++ dvs)) (upd (upd H1 dx (.own x)) x (.ins C dx [])) (fun v H2 => v = .non ∧ Q (.ref x) H2) E) : tMake C sp dvs E t σ H Q := h
theorem made_same {H H' : Hp} {x dx : Addr} {u v : HO} (hx : H x = none) (hd : H dx = none) (e : But x (upd (upd H dx u) x v) H') : Same H H' := fun b o h => by
  have n1 : b ≠ x := fun z => by subst z; rw [hx] at h; cases h
  have n2 : b ≠ dx := fun z => by subst z; rw [hd] at h; cases h
  exact e b o n1 ((upd_ne n1).trans ((upd_ne n2).trans h))
theorem Told.good {h r h' r' : List Nat} (t : Told h r h' r') (wh : Wd h) (wr : Wd r) (r0 : r ≠ []) (lh : h.length ≤ 12) (lr : r.length ≤ 12) : Wd h' ∧ Wd r' ∧ r' ≠ [] ∧ h'.length ≤ 200 ∧ r'.length ≤ 200 := by
  cases t with
  | lap => exact ⟨wh.app wr, wr, r0, by rw [List.length_append]; omega, by omega⟩
  | more n h2 h3 =>
    refine ⟨wh, repW_wd wr, fun z => ?_, by omega, ?_⟩
    · have := congrArg List.length z
      rw [repW_len, List.length_nil] at this
      have l0 : 0 < r.length := List.length_pos_iff.mpr r0
      have := Nat.mul_pos (show 0 < n by omega) l0
      omega
    · rw [repW_len]
      have := Nat.mul_le_mul h3 lr
      omega
  | turn x v e =>
    subst e
    rw [List.length_cons] at lr
    have wx : x = 110 ∨ x = 102 ∨ x = 115 := wr x (List.mem_cons_self ..)
    have w1 : Wd [x] := fun z hz => by rw [List.mem_singleton.mp hz]; exact wx
    exact ⟨wh.app w1, (Wd.app (fun z hz => wr z (List.mem_cons_of_mem _ hz)) w1), by simp, by simp; omega, by simp; omega⟩
/-! ### ways by their words -/
theorem Rch.done {rs : List Row3} {s0 : List Nat} {i : Nat} {F : List (List Nat)} (h : Rch rs s0 i F []) (s : List Nat) : s ∈ F ↔ Goes1 rs s0 s := by
  refine ⟨h.r s, ?_⟩
  rintro ⟨wd, ww, w0, rfl⟩
  have cl : ∀ s ∈ F, ∀ c, (c = 110 ∨ c = 102 ∨ c = 115) → toF rs s c ∈ F := fun s hs => (h.e s hs).resolve_left (fun z => nomatch z)
  have st := h.st.resolve_left (fun z => nomatch z)
  have go : ∀ (v : List Nat) (s : List Nat), Wd v → s ∈ F → runF rs s v ∈ F := by
    intro v
    induction v with
    | nil => exact fun s _ hs => hs
    | cons x v ih => exact fun s hv hs => ih _ (fun c hc => hv c (List.mem_cons_of_mem _ hc)) (cl s hs x (hv x (List.mem_cons_self ..)))
  cases wd with
  | nil => exact absurd rfl w0
  | cons x v => exact go v _ (fun c hc => ww c (List.mem_cons_of_mem _ hc)) (st x (ww x (List.mem_cons_self ..)))
abbrev NW := List Nat × List Nat
def wordsK (G : List NW) : List (Key × V) := G.map fun q => (.inr (S q.1), .str (S q.2))
def EdgeAt (X : Hp) (e : Addr) (E : List NW) : Prop := ∃ ts : List Addr, X e = some (.lst (ts.map V.ref)) ∧ Paired (fun q t => X t = some (.tup [.str (S q.1), .str (S q.2)])) E ts
theorem EdgeAt.same {X Y : Hp} {e : Addr} {E : List NW} (h : Same X Y) (m : EdgeAt X e E) : EdgeAt Y e E := by
  obtain ⟨ts, h1, h2⟩ := m
  exact ⟨ts, h _ _ h1, h2.mono fun _ _ k => h _ _ k⟩
theorem EdgeAt.put {X : Hp} {e p : Addr} {E : List NW} {ks : List (Key × V)} {o : HO} (hp : X p = some (.dK ks)) (m : EdgeAt X e E) : EdgeAt (upd X p o) e E := by
  obtain ⟨ts, h1, h2⟩ := m
  exact ⟨ts, (upd_ne fun z => by subst z; rw [hp] at h1; cases h1).trans h1, h2.mono fun _ t k => (upd_ne fun z => by subst z; rw [hp] at k; cases k).trans k⟩
theorem EdgeAt.lst {X : Hp} {e p : Addr} {E : List NW} {ks ys : List V} (n : e ≠ p) (hp : X p = some (.lst ks)) (m : EdgeAt X e E) : EdgeAt (upd X p (.lst ys)) e E := by
  obtain ⟨ts, h1, h2⟩ := m
  exact ⟨ts, (upd_ne n).trans h1, h2.mono fun _ t k => (upd_ne fun z => by subst z; rw [hp] at k; cases k).trans k⟩
theorem EdgeAt.add {X : Hp} {e t : Addr} {E : List NW} {q : NW} {ts : List Addr} (h1 : X e = some (.lst (ts.map V.ref))) (h2 : Paired (fun q t => X t = some (.tup [.str (S q.1), .str (S q.2)])) E ts) (ht : X t = some (.tup [.str (S q.1), .str (S q.2)])) :
    EdgeAt (upd X e (.lst (ts.map V.ref ++ [.ref t]))) e (E ++ [q]) := by
  have keep : ∀ b ys, X b = some (.tup ys) → (upd X e (.lst (ts.map V.ref ++ [.ref t]))) b = some (.tup ys) := fun b ys h => (upd_ne fun z => by subst z; rw [h1] at h; cases h).trans h
  exact ⟨ts ++ [t], by rw [upd_same, List.map_append]; rfl, (h2.mono fun _ _ h => keep _ _ h).snoc (keep _ _ ht)⟩
/-- the words found, by their states -/
structure GoodW (rs : List Row3) (s0 : List Nat) (i : Nat) (G : List NW) : Prop where
  w : ∀ p ∈ G, Wd p.2 ∧ p.2 ≠ [] ∧ runF rs s0 p.2 = p.1 ∧ p.2.length ≤ i
theorem words_keys (G : List NW) : (wordsK G).map (·.1) = (G.map (·.1)).map fun l => Sum.inr (S l) := by unfold wordsK; rw [List.map_map, List.map_map]; rfl
theorem words_nodup {G : List NW} (nd : (G.map (·.1)).Nodup) : ((wordsK G).map (·.1)).Nodup := by
  rw [words_keys]
  exact List.Pairwise.map _ (fun a b h z => h (keyS_inj z)) nd
theorem words_not {G : List NW} {s : List Nat} (hn : s ∉ G.map (·.1)) : valV (wordsK G) (.inr (S s)) = none := valV_not fun z => by
  rw [words_keys] at z
  obtain ⟨a, ha, e⟩ := List.mem_map.mp z
  exact hn (keyS_inj e ▸ ha)
theorem words_get {G : List NW} (nd : (G.map (·.1)).Nodup) {q : NW} (h : q ∈ G) : valV (wordsK G) (.inr (S q.1)) = some (.str (S q.2)) :=
  valV_mem (words_nodup nd) (List.mem_map.mpr ⟨q, h, rfl⟩)
theorem words_put {G : List NW} {s w : List Nat} (hn : s ∉ G.map (·.1)) : putK (wordsK G) (.inr (S s)) (.str (S w)) = wordsK (G ++ [(s, w)]) := by
  rw [putK_new]
  · unfold wordsK
    rw [List.map_append]
    rfl
  · rw [words_keys]
    intro z
    obtain ⟨a, ha, e⟩ := List.mem_map.mp z
    exact hn (keyS_inj e ▸ ha)
theorem words_some {G : List NW} (nd : (G.map (·.1)).Nodup) (s : List Nat) : (valV (wordsK G) (.inr (S s))).isSome = decide (s ∈ G.map (·.1)) := by
  by_cases h : s ∈ G.map (·.1)
  · obtain ⟨q, hq, rfl⟩ := List.mem_map.mp h
    rw [words_get nd hq, decide_eq_true h]
    rfl
  · rw [words_not h, decide_eq_false h]
    rfl
theorem GoodW.mono {rs : List Row3} {s0 : List Nat} {i j : Nat} {G : List NW} (h : GoodW rs s0 i G) (l : i ≤ j) : GoodW rs s0 j G := ⟨fun p hp => by obtain ⟨a, b, c, d⟩ := h.w p hp; exact ⟨a, b, c, by omega⟩⟩
theorem GoodW.add {rs : List Row3} {s0 : List Nat} {i : Nat} {G : List NW} {q : NW} {c : Nat} (h : GoodW rs s0 (i + 1) G) (hq : Wd q.2) (er : runF rs s0 q.2 = q.1) (hl : q.2.length ≤ i) (hc : c = 110 ∨ c = 102 ∨ c = 115) : GoodW rs s0 (i + 1) (G ++ [(toF rs q.1 c, q.2 ++ [c])]) := ⟨fun p hp => by
  rcases List.mem_append.mp hp with k | k
  · exact h.w p k
  · rw [List.mem_singleton.mp k]
    exact ⟨hq.app (fun x hx => by rw [List.mem_singleton.mp hx]; exact hc), by simp, by show runF rs s0 (q.2 ++ [c]) = _; rw [runF_snoc, er], by show (q.2 ++ [c]).length ≤ i + 1; simp; exact hl⟩⟩
/-- all but two objects -/
def But2 (a b : Addr) (H H' : Hp) : Prop := ∀ c o, c ≠ a → c ≠ b → H c = some o → H' c = some o
theorem But2.refl {a b : Addr} {H : Hp} : But2 a b H H := fun _ _ _ _ h => h
theorem But2.same {a b : Addr} {H X Y : Hp} (e : But2 a b H X) (f : Same X Y) : But2 a b H Y := fun c o h1 h2 h => f _ _ (e c o h1 h2 h)
theorem But2.pa {a b : Addr} {H X : Hp} {o : HO} (e : But2 a b H X) : But2 a b H (upd X a o) := fun c u h1 h2 h => (upd_ne h1).trans (e c u h1 h2 h)
theorem But2.pb {a b : Addr} {H X : Hp} {o : HO} (e : But2 a b H X) : But2 a b H (upd X b o) := fun c u h1 h2 h => (upd_ne h2).trans (e c u h1 h2 h)
theorem But2.base {a b : Addr} {H B X : Hp} (s : Same H B) (e : But2 a b B X) (ha : H a = none) (hb : H b = none) : Same H X := fun c o h =>
  e c o (fun z => by subst z; rw [ha] at h; cases h) (fun z => by subst z; rw [hb] at h; cases h) (s c o h)
def setW (G : List NW) (s : List Nat) : List NW := if s ∈ G.map (·.1) then G.map (fun q => if q.1 = s then (q.1, []) else q) else G ++ [(s, [])]
theorem setW_put (G : List NW) (s : List Nat) : putK (wordsK G) (.inr (S s)) (.str (S [])) = wordsK (setW G s) := by
  unfold setW
  by_cases h : s ∈ G.map (·.1)
  · rw [if_pos h]
    unfold putK
    rw [if_pos]
    · unfold wordsK
      rw [List.map_map, List.map_map]
      refine List.map_congr_left fun q _ => ?_
      show (if (Sum.inr (S q.1) : Key) = .inr (S s) then _ else _) = _
      by_cases e : q.1 = s
      · rw [if_pos (by rw [e])]
        show _ = ((Sum.inr (S (if q.1 = s then (q.1, ([] : List Nat)) else q).1) : Key), V.str (S (if q.1 = s then (q.1, ([] : List Nat)) else q).2))
        rw [if_pos e]
      · rw [if_neg fun z => e (keyS_inj z)]
        show _ = ((Sum.inr (S (if q.1 = s then (q.1, ([] : List Nat)) else q).1) : Key), V.str (S (if q.1 = s then (q.1, ([] : List Nat)) else q).2))
        rw [if_neg e]
    · obtain ⟨q, hq, e⟩ := List.mem_map.mp h
      exact List.any_eq_true.mpr ⟨(.inr (S q.1), .str (S q.2)), List.mem_map.mpr ⟨q, hq, rfl⟩, decide_eq_true (by rw [← e])⟩
  · rw [if_neg h, words_put h]
theorem setW_keys (G : List NW) (s : List Nat) : (setW G s).map (·.1) = if s ∈ G.map (·.1) then G.map (·.1) else G.map (·.1) ++ [s] := by
  unfold setW
  by_cases h : s ∈ G.map (·.1)
  · rw [if_pos h, if_pos h, List.map_map]
    refine List.map_congr_left fun q _ => ?_
    show (if q.1 = s then (q.1, ([] : List Nat)) else q).1 = q.1
    split <;> rfl
  · rw [if_neg h, if_neg h, List.map_append]
    rfl
theorem setW_nodup {G : List NW} (nd : (G.map (·.1)).Nodup) (s : List Nat) : ((setW G s).map (·.1)).Nodup := by
  rw [setW_keys]
  by_cases h : s ∈ G.map (·.1)
  · rw [if_pos h]; exact nd
  · rw [if_neg h, List.nodup_append]
    exact ⟨nd, by simp, fun x h1 y h2 => by rw [List.mem_singleton.mp h2]; rintro rfl; exact h h1⟩
theorem setW_mem (G : List NW) (s n : List Nat) : n ∈ (setW G s).map (·.1) ↔ n = s ∨ n ∈ G.map (·.1) := by
  rw [setW_keys]
  by_cases h : s ∈ G.map (·.1)
  · rw [if_pos h]
    exact ⟨.inr, fun z => z.elim (fun e => e ▸ h) id⟩
  · rw [if_neg h, List.mem_append, List.mem_singleton]
    exact Or.comm
structure HeadW (rs : List Row3) (s0 : List Nat) (i : Nat) (G : List NW) : Prop where
  w : ∀ p ∈ G, Wd p.2 ∧ runF rs s0 p.2 = p.1 ∧ p.2.length ≤ i
theorem GoodW.head {rs : List Row3} {s0 : List Nat} {i : Nat} {G : List NW} (h : GoodW rs s0 i G) : HeadW rs s0 i (setW G s0) := ⟨fun p hp => by
  unfold setW at hp
  by_cases k : s0 ∈ G.map (·.1)
  · rw [if_pos k] at hp
    obtain ⟨q, hq, rfl⟩ := List.mem_map.mp hp
    by_cases e : q.1 = s0
    · rw [if_pos e]
      exact ⟨(fun _ h => nomatch h), e.symm, Nat.zero_le _⟩
    · rw [if_neg e]
      obtain ⟨a, _, b, c⟩ := h.w q hq
      exact ⟨a, b, c⟩
  · rw [if_neg k] at hp
    rcases List.mem_append.mp hp with hp | hp
    · obtain ⟨a, _, b, c⟩ := h.w p hp
      exact ⟨a, b, c⟩
    · rw [List.mem_singleton.mp hp]
      exact ⟨(fun _ h => nomatch h), rfl, Nat.zero_le _⟩⟩
/-- what a search for a let loss tells -/
def FoundL (rs : List Row3) (s0 : List Nat) (H : Hp) (v : V) : Prop :=
  (v = .non ∧ ¬ Lives rs s0) ∨ ∃ t h r n, v = .ref t ∧ H t = some (.tup [.str (S h), .str (S r)]) ∧ Wd h ∧ Wd r ∧ r ≠ [] ∧ h.length ≤ 65 ∧ r.length ≤ 65 ∧ runF rs s0 h = n ∧ oftF rs n = true ∧ runF rs n r = n
theorem r_lock {t : TS} {D : Ends} {σ : L2.St} {H : Hp} (h : ∃ d u, H d = some u ∧ Mut (some u) ∧ ∀ od, t ⟨fun σ' H' => H' d = some (.frz od u) ∧ D.nx σ' (upd H' d u), fun v H' => H' d = some (.frz od u) ∧ D.rt v (upd H' d u), fun σ' H' => H' d = some (.frz od u) ∧ D.bk σ' (upd H' d u), fun σ' H' => H' d = some (.frz od u) ∧ D.ct σ' (upd H' d u)⟩ σ (upd H d (.frz od u))) : tLock t D σ H := h
theorem r_dget1 {td ty : TE} {σ : L2.St} {H : Hp} {Q : VK} (h : td σ H fun x H1 => ∃ a, x = .ref a ∧ IsD H1 a ∧ ty σ H1 fun y H2 => ∃ o, DGet H2 a y o ∧ Q (o.getD .non) H2) : tDGet1 td ty σ H Q := h
theorem r_keys {td : TE} {σ : L2.St} {H : Hp} {R : It → Hp → Prop} (h : td σ H fun x H1 => ∃ d o, x = .ref d ∧ ((∃ kvs, H1 d = some (.frz o (.dK kvs)) ∧ R (Itk d o kvs) H1) ∨ ∃ kvs, H1 d = some (.frz o (.dT kvs)) ∧ R (Itkt d o kvs) H1)) : iKeys td σ H R := h
theorem wdD_W {lo : Nat} {l : List Nat} (hw : Wd l) (h1 : lo ≤ l.length) (hl : l.length ≤ 200) : wdD lo 200 (.str (S l)) = true := by
  rw [wdD_S, decide_eq_true h1, decide_eq_true hl, Bool.true_and, Bool.true_and, List.all_eq_true]
  intro c hc
  rcases hw c hc with rfl | rfl | rfl <;> decide
theorem lossD_W {h r : List Nat} (wh : Wd h) (wr : Wd r) (lh : h.length ≤ 200) (lr : r.length ≤ 200) (r0 : 0 < r.length) : lossD (.tuple [.str (S h), .str (S r)]) = true := by
  show (wdD 0 200 (.str (S h)) && wdD 1 200 (.str (S r))) = true
  rw [wdD_W wh (Nat.zero_le _) lh, wdD_W wr r0 lr]
  rfl
/-- a value is a right loss of a law: b -/
def RightV (rs : List Row3) (d : PyData) (b : Bool) : Prop := (d = .none → (b = true ↔ ¬ Lives rs (firstOf rs))) ∧ (d ≠ .none → lossD d = false → b = false) ∧ ∀ h r, d = .tuple [.str (S h), .str (S r)] → lossD d = true → b = letsF rs h r
theorem RightV.eq {rs : List Row3} {d : PyData} {b c : Bool} (h : RightV rs d b) (k : RightV rs d c) : b = c := by
  by_cases hn : d = .none
  · rw [Bool.eq_iff_iff, h.1 hn, k.1 hn]
  · cases hl : lossD d with
    | false => rw [h.2.1 hn hl, k.2.1 hn hl]
    | true =>
      obtain ⟨d1, d2, rfl⟩ : ∃ d1 d2, d = .tuple [d1, d2] := by
        unfold lossD at hl
        split at hl
        · exact ⟨_, _, rfl⟩
        · cases hl
      unfold lossD at hl
      obtain ⟨w1, w2⟩ := Bool.and_eq_true_iff.mp hl
      have st : ∀ {lo hi : Nat} {d : PyData}, wdD lo hi d = true → ∃ l, d = .str (S l) := fun {lo hi d} h => by
        cases d with
        | str z => exact ⟨z.cps.toList, by rw [← S_of]⟩
        | _ => cases h
      obtain ⟨l1, rfl⟩ := st w1
      obtain ⟨l2, rfl⟩ := st w2
      have hl2 : lossD (.tuple [.str (S l1), .str (S l2)]) = true := by unfold lossD; exact hl
      rw [h.2.2 _ _ rfl hl2, k.2.2 _ _ rfl hl2]
theorem dat_none {K : PySem.W.Frag} {z0 : Addr} {H : Hp} {d : PyData} (h : Dat K z0 H d .non) : d = .none := by
  cases d with
  | none => rfl
  | bool b => unfold Dat at h; cases h
  | int i => unfold Dat at h; obtain ⟨h, _⟩ := h; cases h
  | str z => unfold Dat at h; obtain ⟨h, _⟩ := h; cases h
  | list ds => unfold Dat at h; obtain ⟨_, _, h, _⟩ := h; cases h
  | tuple ds => unfold Dat at h; obtain ⟨_, _, h, _⟩ := h; cases h
  | dict ds => unfold Dat at h; obtain ⟨_, _, h, _⟩ := h; cases h
theorem dat_none' {K : PySem.W.Frag} {z0 : Addr} {H : Hp} {x : V} (h : Dat K z0 H .none x) : x = .non := by unfold Dat at h; exact h
def spF (k : Int) : Nat → List Row3 → List Row3
  | _, [] => []
  | i, r :: rs => ⟨r.nm, decide (V.int (i : Nat) = V.int k), r.way⟩ :: spF k (i + 1) rs
theorem spF_get (k : Int) : ∀ (j : Nat) (rs : List Row3) (i : Nat), (spF k j rs)[i]? = rs[i]?.map fun r => ⟨r.nm, decide (V.int ((j + i : Nat) : Int) = V.int k), r.way⟩
  | _, [], i => by simp [spF]
  | j, r :: rs, 0 => by simp [spF]
  | j, r :: rs, i + 1 => by
    show (spF k (j + 1) rs)[i]? = _
    rw [spF_get k (j + 1) rs i, List.getElem?_cons_succ, show j + 1 + i = j + (i + 1) by omega]
theorem spF_nms (k : Int) : ∀ (j : Nat) (rs : List Row3), (spF k j rs).map (·.nm) = rs.map (·.nm)
  | _, [] => rfl
  | j, r :: rs => by
    show r.nm :: (spF k (j + 1) rs).map (·.nm) = _
    rw [spF_nms k (j + 1) rs]
    rfl
theorem spF_way (k : Int) : ∀ (j : Nat) (rs : List Row3) (r : Row3), r ∈ spF k j rs → ∃ r' ∈ rs, r.way = r'.way
  | _, [], r, h => nomatch h
  | j, r0 :: rs, r, h => by
    rcases List.mem_cons.mp h with rfl | h
    · exact ⟨r0, List.mem_cons_self .., rfl⟩
    · obtain ⟨r', h1, h2⟩ := spF_way k (j + 1) rs r h
      exact ⟨r', List.mem_cons_of_mem _ h1, h2⟩
theorem spF_len (k : Int) (j : Nat) (rs : List Row3) : (spF k j rs).length = rs.length := by
  have := congrArg List.length (spF_nms k j rs)
  rwa [List.length_map, List.length_map] at this
theorem Law3.sparse {rs : List Row3} (h : Law3 rs) (k : Int) : Law3 (spF k 0 rs) := by
  refine ⟨fun z => ?_, by rw [spF_len]; exact h.len, by rw [spF_nms, spF_len]; exact h.nms, fun r hr c hc => ?_⟩
  · have := spF_len k 0 rs
    rw [z] at this
    exact h.ne (List.length_eq_zero_iff.mp this.symm)
  · obtain ⟨r', h1, h2⟩ := spF_way k 0 rs r hr
    rw [spF_nms, h2]
    exact h.cl r' h1 c hc
theorem found_dat {K : PySem.W.Frag} {a : Addr} {rs : List Row3} {X : Hp} {v : V} (hf : FoundL rs (firstOf rs) X v) : ∃ d, Dat K a X d v ∧ bt d = true ∧ cap d ≤ 2000 ∧ d.depth ≤ 1 ∧ True := by
  rcases hf with ⟨rfl, _⟩ | ⟨t, h, r, n, rfl, ht, wh, wr, r0, lh, lr, _⟩
  · exact ⟨.none, dat_non, rfl, by decide, by simp [PyData.depth], trivial⟩
  · have c1 : ∀ c ∈ h, c < 128 ∧ c ≠ 10 := fun c hc => by rcases wh c hc with rfl | rfl | rfl <;> decide
    have c2 : ∀ c ∈ r, c < 128 ∧ c ≠ 10 := fun c hc => by rcases wr c hc with rfl | rfl | rfl <;> decide
    refine ⟨.tuple [.str (S h), .str (S r)], dat_tup (SqT.of ht) (datL_cons (dat_W fun c hc => (c1 c hc).1) (datL_cons (dat_W fun c hc => (c2 c hc).1) datL_nil)), ?_, ?_, ?_, trivial⟩
    · show (bt (.str (S h)) && (bt (.str (S r)) && true)) = true
      rw [bt_S c1 (by omega), bt_S c2 (by omega)]
      rfl
    · simp only [cap, capL, S_len]; omega
    · simp [PyData.depth, PyData.depthAll]
theorem found_lets {rs : List Row3} {h r n : List Nat} (hw : Law3 rs) (wh : Wd h) (wr : Wd r) (r0 : r ≠ []) (e1 : runF rs (firstOf rs) h = n) (e2 : oftF rs n = true) (e3 : runF rs n r = n) : letsF rs h r = true := by
  have l0 : lapS rs h r 0 = n := by rw [lapS_zero, e1]
  have l1 : lapS rs h r 1 = n := by rw [lapS_succ, l0, e3]
  rw [lets_laps hw.ne hw.cl wh wr r0 (show 0 < 1 by omega) (l0.trans l1.symm)]
  refine ⟨0, Nat.le_refl _, by omega, ?_⟩
  unfold lapHit hits
  rw [l0, decide_eq_true_eq]
  have hp : 0 < r.length := List.length_pos_iff.mpr r0
  refine ⟨r.length - 1, by omega, ?_⟩
  rw [show r.length - 1 + 1 = r.length by omega, List.take_length, e3]
  exact e2
theorem found_right {K : PySem.W.Frag} {a : Addr} {rs : List Row3} {X : Hp} {v : V} {b : Bool} {d : PyData} (hw : Law3 rs) (hf : FoundL rs (firstOf rs) X v) (hd : Dat K a X d v) (hk : ∃ d', Dat K a X d' v ∧ ∀ c, RightV rs d' c → c = true) (huniq : ∀ d', Dat K a X d' v → RightV rs d b → RightV rs d' b) (hb : RightV rs d b) : b = true := by
  obtain ⟨d', h1, h2⟩ := hk
  exact h2 b (huniq d' h1 hb)
/-- what a search tells, as data, and that it is right -/
theorem found_dat2 {K : PySem.W.Frag} {a : Addr} {rs : List Row3} {X : Hp} {v : V} (hw : Law3 rs) (hf : FoundL rs (firstOf rs) X v) : ∃ d, Dat K a X d v ∧ bt d = true ∧ cap d ≤ 2000 ∧ d.depth ≤ 1 ∧ ∀ b, RightV rs d b → b = true := by
  rcases hf with ⟨rfl, hn⟩ | ⟨t, h, r, n, rfl, ht, wh, wr, r0, lh, lr, e1, e2, e3⟩
  · exact ⟨.none, dat_non, rfl, by decide, by simp [PyData.depth], fun b hb => (hb.1 rfl).mpr hn⟩
  · have c1 : ∀ c ∈ h, c < 128 ∧ c ≠ 10 := fun c hc => by rcases wh c hc with rfl | rfl | rfl <;> decide
    have c2 : ∀ c ∈ r, c < 128 ∧ c ≠ 10 := fun c hc => by rcases wr c hc with rfl | rfl | rfl <;> decide
    refine ⟨.tuple [.str (S h), .str (S r)], dat_tup (SqT.of ht) (datL_cons (dat_W fun c hc => (c1 c hc).1) (datL_cons (dat_W fun c hc => (c2 c hc).1) datL_nil)), ?_, ?_, ?_, fun b hb => ?_⟩
    · show (bt (.str (S h)) && (bt (.str (S r)) && true)) = true
      rw [bt_S c1 (by omega), bt_S c2 (by omega)]
      rfl
    · simp only [cap, capL, S_len]; omega
    · simp [PyData.depth, PyData.depthAll]
    · rw [hb.2.2 h r rfl (lossD_W wh wr (by omega) (by omega) (List.length_pos_iff.mpr r0))]
      exact found_lets hw wh wr r0 e1 e2 e3
def NearV (K : PySem.W.Frag) (a : Addr) (X : Hp) (v : V) : Prop := ∃ d, Dat K a X d v ∧ cap d ≤ 100000
theorem NearV.same {K : PySem.W.Frag} {a : Addr} {X Y : Hp} {v : V} (e : Same X Y) (h : NearV K a X v) : NearV K a Y v := by
  obtain ⟨d, h1, h2⟩ := h
  exact ⟨d, dat_same e h1, h2⟩
theorem NearV.but {K : PySem.W.Frag} {a : Addr} {c : Int} {X Y : Hp} {v : V} (e : But a X Y) (P : PotAt X a c) (h : NearV K a X v) : NearV K a Y v := by
  obtain ⟨d, h1, h2⟩ := h
  exact ⟨d, dat_but e P h1, h2⟩
theorem NearV.non {K : PySem.W.Frag} {a : Addr} {X : Hp} : NearV K a X .non := ⟨.none, dat_non, by decide⟩
theorem NearV.loss {K : PySem.W.Frag} {a t : Addr} {X : Hp} {h r : List Nat} (ht : X t = some (.tup [.str (S h), .str (S r)])) (wh : Wd h) (wr : Wd r) (lh : h.length ≤ 100) (lr : r.length ≤ 100) : NearV K a X (.ref t) :=
  ⟨.tuple [.str (S h), .str (S r)], dat_tup (SqT.of ht) (datL_cons (dat_W fun c hc => by rcases wh c hc with rfl | rfl | rfl <;> decide) (datL_cons (dat_W fun c hc => by rcases wr c hc with rfl | rfl | rfl <;> decide) datL_nil)), by simp only [cap, capL, S_len]; omega⟩
theorem lossH_dat {K : PySem.W.Frag} {a t : Addr} {X : Hp} {h r : List Nat} (ht : X t = some (.tup [.str (S h), .str (S r)])) (wh : Wd h) (wr : Wd r) (lh : h.length ≤ 100) (lr : r.length ≤ 100) : ∃ d, Dat K a X d (.ref t) ∧ bt d = true ∧ cap d ≤ 2100 ∧ d.depth ≤ 1 := by
  have c1 : ∀ c ∈ h, c < 128 ∧ c ≠ 10 := fun c hc => by rcases wh c hc with rfl | rfl | rfl <;> decide
  have c2 : ∀ c ∈ r, c < 128 ∧ c ≠ 10 := fun c hc => by rcases wr c hc with rfl | rfl | rfl <;> decide
  refine ⟨.tuple [.str (S h), .str (S r)], dat_tup (SqT.of ht) (datL_cons (dat_W fun c hc => (c1 c hc).1) (datL_cons (dat_W fun c hc => (c2 c hc).1) datL_nil)), ?_, ?_, ?_⟩
  · show (bt (.str (S h)) && (bt (.str (S r)) && true)) = true
    rw [bt_S c1 (by omega), bt_S c2 (by omega)]
    rfl
  · simp only [cap, capL, S_len]; omega
  · simp [PyData.depth, PyData.depthAll]
/-- a value that can be shown -/
def NearS (K : PySem.W.Frag) (a : Addr) (X : Hp) (v : V) : Prop := ∃ d, Dat K a X d v ∧ cap d ≤ 100000 ∧ d.depth ≤ 20 ∧ (d.hasDict = true → noList d = true)
theorem NearS.same {K : PySem.W.Frag} {a : Addr} {X Y : Hp} {v : V} (e : Same X Y) (h : NearS K a X v) : NearS K a Y v := by
  obtain ⟨d, h1, h2⟩ := h
  exact ⟨d, dat_same e h1, h2⟩
theorem NearS.but {K : PySem.W.Frag} {a : Addr} {c : Int} {X Y : Hp} {v : V} (e : But a X Y) (P : PotAt X a c) (h : NearS K a X v) : NearS K a Y v := by
  obtain ⟨d, h1, h2⟩ := h
  exact ⟨d, dat_but e P h1, h2⟩
theorem NearS.txt {K : PySem.W.Frag} {a : Addr} {X : Hp} {l : List Nat} (h : ∀ c ∈ l, c < 128) (hl : l.length ≤ 1000) : NearS K a X (.str (S l)) :=
  ⟨.str (S l), dat_W h, by simp only [cap, S_len]; omega, by simp [PyData.depth], fun z => by simp [PyData.hasDict] at z⟩
theorem NearS.non {K : PySem.W.Frag} {a : Addr} {X : Hp} : NearS K a X .non := ⟨.none, dat_non, by decide, by simp [PyData.depth], fun z => by simp [PyData.hasDict] at z⟩
theorem NearS.bl {K : PySem.W.Frag} {a : Addr} {X : Hp} {b : Bool} : NearS K a X (.bl b) := ⟨.bool b, dat_bl, by simp [cap], by simp [PyData.depth], fun z => by simp [PyData.hasDict] at z⟩
theorem NearS.sml {K : PySem.W.Frag} {a : Addr} {X : Hp} {v : V} {d : PyData} {n m : Nat} (h : Sml K a X n m d v) (hn : n ≤ 20) (hm : m ≤ 100000) : NearS K a X v := ⟨d, h.1, Nat.le_trans h.2.1 hm, Nat.le_trans h.2.2.1 hn, h.2.2.2⟩
theorem Wd.asc {l : List Nat} (h : Wd l) : ∀ c ∈ l, c < 128 := fun c hc => by rcases h c hc with rfl | rfl | rfl <;> decide
theorem NearS.pair {K : PySem.W.Frag} {a t : Addr} {X : Hp} {l m : List Nat} (ht : SqT K X t [.str (S l), .str (S m)]) (h1 : ∀ c ∈ l, c < 128) (h2 : ∀ c ∈ m, c < 128) (l1 : l.length ≤ 1000) (l2 : m.length ≤ 1000) : NearS K a X (.ref t) :=
  ⟨.tuple [.str (S l), .str (S m)], dat_tup ht (datL_cons (dat_W h1) (datL_cons (dat_W h2) datL_nil)), by simp only [cap, capL, S_len]; omega, by simp [PyData.depth, PyData.depthAll], fun z => by simp [PyData.hasDict, PyData.hasDictAll] at z⟩
theorem rep_asc {n c : Nat} (hc : c < 128) : ∀ x ∈ (List.replicate n [c]).flatten, x < 128 := fun x hx => by
  obtain ⟨m, hm, hx⟩ := List.mem_flatten.mp hx
  rw [List.eq_of_mem_replicate hm, List.mem_singleton] at hx
  rw [hx]; exact hc
theorem NearS.pairL {K : PySem.W.Frag} {a t : Addr} {X : Hp} {l m : List Nat} (n : t ≠ a) (ht : SqL K X t [.str (S l), .str (S m)]) (h1 : ∀ c ∈ l, c < 128) (h2 : ∀ c ∈ m, c < 128) (l1 : l.length ≤ 1000) (l2 : m.length ≤ 1000) : NearS K a X (.ref t) :=
  ⟨.list [.str (S l), .str (S m)], dat_lst n ht (datL_cons (dat_W h1) (datL_cons (dat_W h2) datL_nil)), by simp only [cap, capL, S_len]; omega, by simp [PyData.depth, PyData.depthAll], fun z => by simp [PyData.hasDict, PyData.hasDictAll] at z⟩
theorem NearS.oneT {K : PySem.W.Frag} {a t : Addr} {X : Hp} {l : List Nat} (ht : SqT K X t [.str (S l)]) (h1 : ∀ c ∈ l, c < 128) (l1 : l.length ≤ 1000) : NearS K a X (.ref t) :=
  ⟨.tuple [.str (S l)], dat_tup ht (datL_cons (dat_W h1) datL_nil), by simp only [cap, capL, S_len]; omega, by simp [PyData.depth, PyData.depthAll], fun z => by simp [PyData.hasDict, PyData.hasDictAll] at z⟩
theorem NearS.extN {K : PySem.W.Frag} {a : Addr} {X Y : Hp} {v : V} (e : ExtN X Y) (h : NearS K a X v) : NearS K a Y v := by
  obtain ⟨d, h1, h2⟩ := h
  exact ⟨d, dat_extN e h1, h2⟩
theorem lossT_dat {K : PySem.W.Frag} {a t : Addr} {X : Hp} {h r : List Nat} (ht : SqT K X t [.str (S h), .str (S r)]) (wh : Wd h) (wr : Wd r) (lh : h.length ≤ 100) (lr : r.length ≤ 100) : ∃ d, Dat K a X d (.ref t) ∧ bt d = true ∧ cap d ≤ 2100 ∧ d.depth ≤ 1 := by
  have c1 : ∀ c ∈ h, c < 128 ∧ c ≠ 10 := fun c hc => by rcases wh c hc with rfl | rfl | rfl <;> decide
  have c2 : ∀ c ∈ r, c < 128 ∧ c ≠ 10 := fun c hc => by rcases wr c hc with rfl | rfl | rfl <;> decide
  refine ⟨.tuple [.str (S h), .str (S r)], dat_tup ht (datL_cons (dat_W fun c hc => (c1 c hc).1) (datL_cons (dat_W fun c hc => (c2 c hc).1) datL_nil)), ?_, ?_, ?_⟩
  · show (bt (.str (S h)) && (bt (.str (S r)) && true)) = true
    rw [bt_S c1 (by omega), bt_S c2 (by omega)]
    rfl
  · simp only [cap, capL, S_len]; omega
  · simp [PyData.depth, PyData.depthAll]
theorem WRow.extN {H H1 : Hp} {r : Row3} {kv : Key × V} (e : ExtN H H1) (h : WRow H r kv) : WRow H1 r kv := by
  obtain ⟨d, h1, h2⟩ := h
  exact ⟨d, h1, e _ _ h2 fun _ z => nomatch z⟩
theorem WaysAt.extN {H H1 : Hp} {p : Addr} {rs : List Row3} (e : ExtN H H1) (h : WaysAt H p rs) : WaysAt H1 p rs := by
  obtain ⟨kvs, h1, h2⟩ := h
  exact ⟨kvs, e _ _ h1 (fun _ z => nomatch z), h2.mono fun _ _ h => h.extN e⟩
theorem RuleAt.extN {C : Addr} {H H1 : Hp} {x : Addr} {rs : List Row3} (e : ExtN H H1) (h : RuleAt C H x rs) : RuleAt C H1 x rs := by
  obtain ⟨dx, n, o, m, st, h1, h2, h3, h4, h5⟩ := h
  exact ⟨dx, n, o, m, st, e _ _ h1 (fun _ z => nomatch z), e _ _ h2 (fun _ z => nomatch z), e _ _ h3 (fun _ z => nomatch z), e _ _ h4 (fun _ z => nomatch z), h5.extN e⟩
end Tf

set_option Elab.async false
set_option linter.all false
set_option maxRecDepth 100000
set_option maxHeartbeats 2000000
/-! zip whose tuple may still be out: one and two iterators; list(zip(..)) -/
namespace Tf
open PySem PySem.Spec
section
variable {prog : Program} {w : World} {A : Around} {E : Value → Shared → Prop} {s : Shared} {z TI TO i1 i2 : Addr} {fp1 fp2 : List Addr} {n1 n2 i : Nat} {P1 P2 : Nat → Value → Prop} {St1 St2 : Nat → Heap → Prop} {a1 a2 v : Value} {f : Bool}
/-- a zip as it stands, its tuple out or not -/
abbrev ZipSt (h : Heap) (z TI TO : Addr) (v : Value) (f : Bool) : Prop :=
  h.get? z = some { cls := .type "zip", dict := none, data := .fields #[v, .bool f, .bool false, .ref TI, .ref TO], slots := #[] }
def Out (v : Value) : Prop := v = .none ∨ ∃ T : Addr, v = rawInt T
theorem owned_any {Q : Bool → Shared → Prop} (hz : ZipSt s.heap z TI TO v f) (hv : Out v) (h1 : Q true s) (h2 : ∀ h', ZipSt h' z TI TO v true → Heap.SameBut z s.heap h' → Q false { s with heap := h' }) :
    wpAny (model prog w) A (Builtin.SmallTypes.ownedTupleIsFree (.ref z)) Q E s := by
  rcases hv with rfl | ⟨T, rfl⟩
  · exact wpAny_bind (wpAny_field hz rfl (x := .none) rfl (wpAny_pure h1))
  · cases e : s.heap.get? T with
    | some o => exact wpAny_tupleHeld_zip hz e h2
    | none =>
      refine wpAny_bind (wpAny_field hz rfl (x := rawInt T) rfl ?_)
      show wpAny (model prog w) A (loadIfAlive ((T : Int).toNat) >>= _) Q E s
      rw [Int.toNat_natCast]
      have dead : ∀ {R : Option Obj → Shared → Prop}, R none s → wpAny (model prog w) A (loadIfAlive T) R E s := fun {R} h => by
        have h' : R (s.heap.get? T) s := by rw [e]; exact h
        exact fun _ _ _ => h'
      exact wpAny_bind (dead (wpAny_pure h1))
/-- what a draw of two leaves -/
structure Drew2 (i : Nat) (P1 P2 : Nat → Value → Prop) (St1 St2 : Nat → Heap → Prop) (z TI TO i1 i2 : Addr) (g g' : Heap) (x1 x2 : Value) : Prop where
  p1 : P1 i x1
  p2 : P2 i x2
  zs : ∃ v f, ZipSt g' z TI TO v f ∧ Out v
  to : ∃ b1 b2, IsTupOf2 g' TO b1 b2
  s1 : St1 (i + 1) g'
  s2 : St2 (i + 1) g'
  tp : IsTupOf2 g' g.objs.size x1 x2
  sz : g'.objs.size = g.objs.size + 1
  kp : ∀ c o, c ≠ z → c ≠ TO → c ≠ i1 → c ≠ i2 → g.get? c = some o → g'.get? c = some o
theorem zip2_any_item {Q : Value → Shared → Prop} (S : ZipSep2 z TI TO i1 i2 fp1 fp2) (D1 : Draws prog w A i1 fp1 n1 P1 St1) (D2 : Draws prog w A i2 fp2 n2 P2 St2)
    (hz : ZipSt s.heap z TI TO v f) (hv : Out v) (hTI : IsTupOf2 s.heap TI (.ref i1) (.ref i2)) (hTO : IsTupOf2 s.heap TO a1 a2) (st1 : St1 i s.heap) (st2 : St2 i s.heap) (l1 : i < n1) (l2 : i < n2)
    (hQ : ∀ x1 x2 h' tk, Drew2 i P1 P2 St1 St2 z TI TO i1 i2 s.heap h' x1 x2 → Q (.ref s.heap.objs.size) { s with heap := h', toks := tk }) :
    wpAny (model prog w) A (Builtin.«zip.__next__» ⟨[.ref z], []⟩) (fun r t => ∃ v, r = .done (.ret v) ∧ Q v t) E s := by
  rcases s with ⟨hp, g, d, tk0, os⟩
  show wpAny (model prog w) A (field (.ref z) 2 >>= _) _ E _
  refine wpAny_bind (wpAny_field (i := 2) hz rfl (x := .bool false) rfl ?_)
  show wpAny (model prog w) A (field (.ref z) 3 >>= _) _ E _
  refine wpAny_bind (wpAny_field (i := 3) hz rfl (x := .ref TI) rfl ?_)
  refine wpAny_bind (wpAny_seqItems (a := TI) hTI rfl ?_)
  show wpAny (model prog w) A (Builtin.SmallTypes.ownedTupleIsFree (.ref z) >>= _) _ E _
  refine wpAny_bind (owned_any hz hv ?_ fun k0 hk0 hs0 => ?_)
  · simp only [if_true]
    refine wpAny_bind (wpAny_rule (wpAny_bind (wpAny_field (i := 4) hz rfl (x := .ref TO) rfl ?_)))
    refine wpAny_bind (wpAny_setField_rec hz (by simp) fun k0 hk0 hs0 => ?_)
    replace hk0 : ZipSt k0 z TI TO .ellipsis f := hk0
    replace hs0 : Heap.SameBut z hp k0 := hs0
    simp only [List.forIn_cons, List.forIn_nil, List.zipIdx_cons, List.zipIdx_nil]
    refine wpAny_bind (wpAny_bind (wpAny_bind (wpAny_onRaise ?_)))
    show wpAny (model prog w) A (Builtin.SmallTypes.nextOf (.ref i1) >>= _) _ _ ⟨k0, g, d, tk0, os⟩
    refine wpAny_bind (D1.item i _ _ _ l1 (D1.over st1 hs0 S.zf1) fun x1 k1 t1 px1 sx1 hs1 => wpAny_pure ?_)
    replace hs1 : Heap.SameBut i1 k0 k1 := hs1
    have u1 : IsTupOf2 k1 TO a1 a2 := hs1.extBut _ _ S.Ti1 (hs0.extBut _ _ S.TOz hTO)
    refine wpAny_bind (wpAny_seqItems (a := TO) (s := ⟨k1, g, d, t1, os⟩) u1 rfl (wpAny_bind (updateSeq_IsTupOf2 (s := ⟨k1, g, d, t1, os⟩) u1 fun k2 u2 hs2 => ?_)))
    replace u2 : IsTupOf2 k2 TO x1 a2 := u2
    replace hs2 : Heap.SameBut TO k1 k2 := hs2
    refine wpAny_bind (wpAny_letGo (wpAny_pure (wpAny_bind (wpAny_bind (wpAny_onRaise ?_)))))
    show wpAny (model prog w) A (Builtin.SmallTypes.nextOf (.ref i2) >>= _) _ _ ⟨k2, g, d, t1, os⟩
    refine wpAny_bind (D2.item i _ _ _ l2 (D2.over (D2.over (D2.over st2 hs0 S.zf2) hs1 S.sep1_2) hs2 S.Tf2) fun x2 k3 t3 px2 sx2 hs3 => wpAny_pure ?_)
    replace hs3 : Heap.SameBut i2 k2 k3 := hs3
    have u3 : IsTupOf2 k3 TO x1 a2 := hs3.extBut _ _ S.Ti2 u2
    refine wpAny_bind (wpAny_seqItems (a := TO) (s := ⟨k3, g, d, t3, os⟩) u3 rfl (wpAny_bind (updateSeq_IsTupOf2 (s := ⟨k3, g, d, t3, os⟩) u3 fun k4 u4 hs4 => ?_)))
    replace u4 : IsTupOf2 k4 TO x1 x2 := u4
    replace hs4 : Heap.SameBut TO k3 k4 := hs4
    refine wpAny_bind (wpAny_letGo (wpAny_pure (wpAny_pure ?_)))
    refine wpAny_bind (wpAny_seqItems (a := TO) (s := ⟨k4, g, d, t3, os⟩) u4 rfl (wpAny_bind (wpAny_newTuple ?_)))
    have sz : k4.objs.size = hp.objs.size := by rw [hs4.1, hs3.1, hs2.1, hs1.1, hs0.1]
    have z4 : ZipSt k4 z TI TO .ellipsis f := hs4.extBut _ _ S.TOz.symm (hs3.extBut _ _ S.zi2 (hs2.extBut _ _ S.TOz.symm (hs1.extBut _ _ S.zi1 hk0)))
    have kp : ∀ c o, c ≠ z → c ≠ TO → c ≠ i1 → c ≠ i2 → hp.get? c = some o → k4.get? c = some o := fun c o cz cT c1 c2 e => hs4.extBut _ _ cT (hs3.extBut _ _ c2 (hs2.extBut _ _ cT (hs1.extBut _ _ c1 (hs0.extBut _ _ cz e))))
    have q1 : St1 (i + 1) k4 := D1.over (D1.over (D1.over sx1 hs2 S.Tf1) hs3 S.sep2_1) hs4 S.Tf1
    have q2 : St2 (i + 1) k4 := D2.over sx2 hs4 S.Tf2
    have zl : z < k4.objs.size := Heap.lt_size z4
    show wpAny (model prog w) A (Builtin.SmallTypes.ownedTupleHandOut (.ref z) (.ref k4.objs.size) >>= _) _ E ⟨k4.push { cls := .type "tuple", data := .seq #[x1, x2] }, g, d, t3, os⟩
    refine wpAny_bind ?_
    unfold Builtin.SmallTypes.ownedTupleHandOut
    have z5 : ZipSt (k4.push { cls := .type "tuple", data := .seq #[x1, x2] }) z TI TO .ellipsis f := Heap.get?_push_of_some _ z4
    refine wpAny_bind (wpAny_setField_rec z5 (by simp) fun k6 z6 hs6 => wpAny_setField_rec (s := ⟨k6, g, d, t3, os⟩) z6 (by simp) fun k7 z7 hs7 => ?_)
    replace hs6 : Heap.SameBut z (k4.push { cls := .type "tuple", data := .seq #[x1, x2] }) k6 := hs6
    replace hs7 : Heap.SameBut z k6 k7 := hs7
    have up : ∀ c o, c ≠ z → k4.get? c = some o → k7.get? c = some o := fun c o c1 e => hs7.extBut _ _ c1 (hs6.extBut _ _ c1 (Heap.get?_push_of_some _ e))
    have z8 : ZipSt k7 z TI TO (rawInt k4.objs.size) false := z7
    refine wpAny_pure ⟨_, rfl, ?_⟩
    show Q (.ref k4.objs.size) ⟨k7, g, d, t3, os⟩
    have := hQ x1 x2 k7 t3 ⟨px1, px2, ⟨_, _, z8, .inr ⟨_, rfl⟩⟩, ⟨_, _, up _ _ S.TOz u4⟩, D1.frame _ _ _ q1 fun b hb o e => up b o (fun q => S.zf1 (q ▸ hb)) e, D2.frame _ _ _ q2 fun b hb o e => up b o (fun q => S.zf2 (q ▸ hb)) e,
      by rw [← sz]; exact hs7.extBut _ _ (Nat.ne_of_gt zl) (hs6.extBut _ _ (Nat.ne_of_gt zl) (Heap.get?_push_size _ rfl)), by rw [hs7.1, hs6.1, Heap.size_push, sz], fun c o cz cT c1 c2 e => up c o cz (kp c o cz cT c1 c2 e)⟩
    rw [← sz] at this
    exact this
  · simp only [if_false, Bool.false_eq_true]
    replace hk0 : ZipSt k0 z TI TO v true := hk0
    replace hs0 : Heap.SameBut z hp k0 := hs0
    refine wpAny_bind ?_
    rw [← Array.forIn_toList]
    simp only [List.forIn_cons, List.forIn_nil]
    refine wpAny_bind (wpAny_bind (wpAny_holding ?_))
    show wpAny (model prog w) A (Builtin.SmallTypes.nextOf (.ref i1) >>= _) _ _ ⟨k0, g, d, tk0, os⟩
    refine wpAny_bind (D1.item i _ _ _ l1 (D1.over st1 hs0 S.zf1) fun x1 k1 t1 px1 sx1 hs1 => wpAny_pure (wpAny_pure ?_))
    replace hs1 : Heap.SameBut i1 k0 k1 := hs1
    refine wpAny_bind (wpAny_bind (wpAny_holding ?_))
    show wpAny (model prog w) A (Builtin.SmallTypes.nextOf (.ref i2) >>= _) _ _ ⟨k1, g, d, t1, os⟩
    refine wpAny_bind (D2.item i _ _ _ l2 (D2.over (D2.over st2 hs0 S.zf2) hs1 S.sep1_2) fun x2 k3 t3 px2 sx2 hs3 => wpAny_pure (wpAny_pure (wpAny_pure ?_)))
    replace hs3 : Heap.SameBut i2 k1 k3 := hs3
    show wpAny (model prog w) A (newTuple [x1, x2] >>= _) _ E ⟨k3, g, d, t3, os⟩
    refine wpAny_bind (wpAny_newTuple (wpAny_pure ⟨_, rfl, ?_⟩))
    have sz : k3.objs.size = hp.objs.size := by rw [hs3.1, hs1.1, hs0.1]
    have up : ∀ c o, k3.get? c = some o → (k3.push { cls := .type "tuple", data := .seq #[x1, x2] }).get? c = some o := fun c o e => Heap.get?_push_of_some _ e
    have kp : ∀ c o, c ≠ z → c ≠ i1 → c ≠ i2 → hp.get? c = some o → k3.get? c = some o := fun c o cz c1 c2 e => hs3.extBut _ _ c2 (hs1.extBut _ _ c1 (hs0.extBut _ _ cz e))
    show Q (.ref k3.objs.size) ⟨k3.push { cls := .type "tuple", data := .seq #[x1, x2] }, g, d, t3, os⟩
    have := hQ x1 x2 (k3.push { cls := .type "tuple", data := .seq #[x1, x2] }) t3 ⟨px1, px2, ⟨v, true, up _ _ (hs3.extBut _ _ S.zi2 (hs1.extBut _ _ S.zi1 hk0)), hv⟩, ⟨_, _, up _ _ (kp _ _ S.TOz S.Ti1 S.Ti2 hTO)⟩,
      D1.frame _ _ _ (D1.over sx1 hs3 S.sep2_1) fun b hb o e => up b o e, D2.frame _ _ _ sx2 fun b hb o e => up b o e,
      by rw [← sz]; exact Heap.get?_push_size _ rfl, by rw [Heap.size_push, sz], fun c o cz cT c1 c2 e => up c o (kp c o cz c1 c2 e)⟩
    rw [← sz] at this
    exact this
abbrev IsTupOf1 (h : Heap) (T : Addr) (a1 : Value) : Prop := h.get? T = some { cls := .type "tuple", data := .seq #[a1] }
theorem upd_one {T : Addr} {x : Value} {k : Nat} {Q : Unit → Shared → Prop} (hT : IsTupOf1 s.heap T a1) (h : ∀ h', h'.get? T = some { cls := .type "tuple", data := .seq ((#[a1] : Array Value).setIfInBounds k x) } → Heap.SameBut T s.heap h' → Q () { s with heap := h' }) :
    wpAny (model prog w) A (updateSeq T (·.setIfInBounds k x)) Q E s := by
  refine wpAny_updateSeq (a := T) hT rfl (h _ ?_ (Heap.SameBut.update ..))
  rw [Heap.get?_update_self _ hT rfl]; simp [Obj.mapSeq]
structure Sep1 (z TI TO i1 : Addr) (fp1 : List Addr) : Prop where
  TIz : TI ≠ z
  TOz : TO ≠ z
  TITO : TI ≠ TO
  TIi1 : TI ≠ i1
  mem1 : i1 ∈ fp1
  zf1 : z ∉ fp1
  Tf1 : TO ∉ fp1
theorem Sep1.zi1 (D : Sep1 z TI TO i1 fp1) : z ≠ i1 := fun e => D.zf1 (e ▸ D.mem1)
theorem Sep1.Ti1 (D : Sep1 z TI TO i1 fp1) : TO ≠ i1 := fun e => D.Tf1 (e ▸ D.mem1)
structure Drew1 (i : Nat) (P1 : Nat → Value → Prop) (St1 : Nat → Heap → Prop) (z TI TO i1 : Addr) (g g' : Heap) (x1 : Value) : Prop where
  p1 : P1 i x1
  zs : ∃ v f, ZipSt g' z TI TO v f ∧ Out v
  to : ∃ b1, IsTupOf1 g' TO b1
  s1 : St1 (i + 1) g'
  tp : IsTupOf1 g' g.objs.size x1
  sz : g'.objs.size = g.objs.size + 1
  kp : ∀ c o, c ≠ z → c ≠ TO → c ≠ i1 → g.get? c = some o → g'.get? c = some o
theorem zip1_any_item {Q : Value → Shared → Prop} (S : Sep1 z TI TO i1 fp1) (D1 : Draws prog w A i1 fp1 n1 P1 St1)
    (hz : ZipSt s.heap z TI TO v f) (hv : Out v) (hTI : IsTupOf1 s.heap TI (.ref i1)) (hTO : IsTupOf1 s.heap TO a1) (st1 : St1 i s.heap) (l1 : i < n1)
    (hQ : ∀ x1 h' tk, Drew1 i P1 St1 z TI TO i1 s.heap h' x1 → Q (.ref s.heap.objs.size) { s with heap := h', toks := tk }) :
    wpAny (model prog w) A (Builtin.«zip.__next__» ⟨[.ref z], []⟩) (fun r t => ∃ v, r = .done (.ret v) ∧ Q v t) E s := by
  rcases s with ⟨hp, g, d, tk0, os⟩
  show wpAny (model prog w) A (field (.ref z) 2 >>= _) _ E _
  refine wpAny_bind (wpAny_field (i := 2) hz rfl (x := .bool false) rfl ?_)
  show wpAny (model prog w) A (field (.ref z) 3 >>= _) _ E _
  refine wpAny_bind (wpAny_field (i := 3) hz rfl (x := .ref TI) rfl ?_)
  refine wpAny_bind (wpAny_seqItems (a := TI) hTI rfl ?_)
  show wpAny (model prog w) A (Builtin.SmallTypes.ownedTupleIsFree (.ref z) >>= _) _ E _
  refine wpAny_bind (owned_any hz hv ?_ fun k0 hk0 hs0 => ?_)
  · simp only [if_true]
    refine wpAny_bind (wpAny_rule (wpAny_bind (wpAny_field (i := 4) hz rfl (x := .ref TO) rfl ?_)))
    refine wpAny_bind (wpAny_setField_rec hz (by simp) fun k0 hk0 hs0 => ?_)
    replace hk0 : ZipSt k0 z TI TO .ellipsis f := hk0
    replace hs0 : Heap.SameBut z hp k0 := hs0
    simp only [List.forIn_cons, List.forIn_nil, List.zipIdx_cons, List.zipIdx_nil]
    refine wpAny_bind (wpAny_bind (wpAny_bind (wpAny_onRaise ?_)))
    show wpAny (model prog w) A (Builtin.SmallTypes.nextOf (.ref i1) >>= _) _ _ ⟨k0, g, d, tk0, os⟩
    refine wpAny_bind (D1.item i _ _ _ l1 (D1.over st1 hs0 S.zf1) fun x1 k1 t1 px1 sx1 hs1 => wpAny_pure ?_)
    replace hs1 : Heap.SameBut i1 k0 k1 := hs1
    have u1 : IsTupOf1 k1 TO a1 := hs1.extBut _ _ S.Ti1 (hs0.extBut _ _ S.TOz hTO)
    refine wpAny_bind (wpAny_seqItems (a := TO) (s := ⟨k1, g, d, t1, os⟩) u1 rfl (wpAny_bind (upd_one (s := ⟨k1, g, d, t1, os⟩) u1 fun k4 u4 hs4 => ?_)))
    replace u4 : IsTupOf1 k4 TO x1 := u4
    replace hs4 : Heap.SameBut TO k1 k4 := hs4
    refine wpAny_bind (wpAny_letGo (wpAny_pure (wpAny_pure ?_)))
    refine wpAny_bind (wpAny_seqItems (a := TO) (s := ⟨k4, g, d, t1, os⟩) u4 rfl (wpAny_bind (wpAny_newTuple ?_)))
    have sz : k4.objs.size = hp.objs.size := by rw [hs4.1, hs1.1, hs0.1]
    have z4 : ZipSt k4 z TI TO .ellipsis f := hs4.extBut _ _ S.TOz.symm (hs1.extBut _ _ S.zi1 hk0)
    have kp : ∀ c o, c ≠ z → c ≠ TO → c ≠ i1 → hp.get? c = some o → k4.get? c = some o := fun c o cz cT c1 e => hs4.extBut _ _ cT (hs1.extBut _ _ c1 (hs0.extBut _ _ cz e))
    have q1 : St1 (i + 1) k4 := D1.over sx1 hs4 S.Tf1
    have zl : z < k4.objs.size := Heap.lt_size z4
    show wpAny (model prog w) A (Builtin.SmallTypes.ownedTupleHandOut (.ref z) (.ref k4.objs.size) >>= _) _ E ⟨k4.push { cls := .type "tuple", data := .seq #[x1] }, g, d, t1, os⟩
    refine wpAny_bind ?_
    unfold Builtin.SmallTypes.ownedTupleHandOut
    have z5 : ZipSt (k4.push { cls := .type "tuple", data := .seq #[x1] }) z TI TO .ellipsis f := Heap.get?_push_of_some _ z4
    refine wpAny_bind (wpAny_setField_rec z5 (by simp) fun k6 z6 hs6 => wpAny_setField_rec (s := ⟨k6, g, d, t1, os⟩) z6 (by simp) fun k7 z7 hs7 => ?_)
    replace hs6 : Heap.SameBut z (k4.push { cls := .type "tuple", data := .seq #[x1] }) k6 := hs6
    replace hs7 : Heap.SameBut z k6 k7 := hs7
    have up : ∀ c o, c ≠ z → k4.get? c = some o → k7.get? c = some o := fun c o c1 e => hs7.extBut _ _ c1 (hs6.extBut _ _ c1 (Heap.get?_push_of_some _ e))
    have z8 : ZipSt k7 z TI TO (rawInt k4.objs.size) false := z7
    refine wpAny_pure ⟨_, rfl, ?_⟩
    show Q (.ref k4.objs.size) ⟨k7, g, d, t1, os⟩
    have := hQ x1 k7 t1 ⟨px1, ⟨_, _, z8, .inr ⟨_, rfl⟩⟩, ⟨_, up _ _ S.TOz u4⟩, D1.frame _ _ _ q1 fun b hb o e => up b o (fun q => S.zf1 (q ▸ hb)) e,
      by rw [← sz]; exact hs7.extBut _ _ (Nat.ne_of_gt zl) (hs6.extBut _ _ (Nat.ne_of_gt zl) (Heap.get?_push_size _ rfl)), by rw [hs7.1, hs6.1, Heap.size_push, sz], fun c o cz cT c1 e => up c o cz (kp c o cz cT c1 e)⟩
    rw [← sz] at this
    exact this
  · simp only [if_false, Bool.false_eq_true]
    replace hk0 : ZipSt k0 z TI TO v true := hk0
    replace hs0 : Heap.SameBut z hp k0 := hs0
    refine wpAny_bind ?_
    rw [← Array.forIn_toList]
    simp only [List.forIn_cons, List.forIn_nil]
    refine wpAny_bind (wpAny_bind (wpAny_holding ?_))
    show wpAny (model prog w) A (Builtin.SmallTypes.nextOf (.ref i1) >>= _) _ _ ⟨k0, g, d, tk0, os⟩
    refine wpAny_bind (D1.item i _ _ _ l1 (D1.over st1 hs0 S.zf1) fun x1 k3 t3 px1 sx1 hs3 => wpAny_pure (wpAny_pure (wpAny_pure ?_)))
    replace hs3 : Heap.SameBut i1 k0 k3 := hs3
    show wpAny (model prog w) A (newTuple [x1] >>= _) _ E ⟨k3, g, d, t3, os⟩
    refine wpAny_bind (wpAny_newTuple (wpAny_pure ⟨_, rfl, ?_⟩))
    have sz : k3.objs.size = hp.objs.size := by rw [hs3.1, hs0.1]
    have up : ∀ c o, k3.get? c = some o → (k3.push { cls := .type "tuple", data := .seq #[x1] }).get? c = some o := fun c o e => Heap.get?_push_of_some _ e
    have kp : ∀ c o, c ≠ z → c ≠ i1 → hp.get? c = some o → k3.get? c = some o := fun c o cz c1 e => hs3.extBut _ _ c1 (hs0.extBut _ _ cz e)
    show Q (.ref k3.objs.size) ⟨k3.push { cls := .type "tuple", data := .seq #[x1] }, g, d, t3, os⟩
    have := hQ x1 (k3.push { cls := .type "tuple", data := .seq #[x1] }) t3 ⟨px1, ⟨v, true, up _ _ (hs3.extBut _ _ S.zi1 hk0), hv⟩, ⟨_, up _ _ (kp _ _ S.TOz S.Ti1 hTO)⟩,
      D1.frame _ _ _ sx1 fun b hb o e => up b o e, by rw [← sz]; exact Heap.get?_push_size _ rfl, by rw [Heap.size_push, sz], fun c o cz cT c1 e => up c o (kp c o cz c1 e)⟩
    rw [← sz] at this
    exact this
/-- the end, where the first iterator is at its end: k iterators -/
theorem zip_any_end {Q : PySem.Fin → Shared → Prop} {its : Array Value} {rest : List Value} {oI : Obj} {m : Nat} (hits : its.toList = .ref i1 :: rest) (D1 : Draws prog w A i1 fp1 n1 P1 St1) (zi : z ≠ i1) (zf : z ∉ fp1)
    (hz : ZipSt s.heap z TI TO v f) (hv : Out v) (hTI : s.heap.get? TI = some oI) (hI : oI.data = .seq its m) (st1 : St1 n1 s.heap)
    (hE : ∀ h' e, (∀ c o, c ≠ z → c ≠ i1 → s.heap.get? c = some o → h'.get? c = some o) → (∃ o, h'.get? e = some o ∧ o.cls = .type "StopIteration") → E (.ref e) { s with heap := h' }) :
    wpAny (model prog w) A (Builtin.«zip.__next__» ⟨[.ref z], []⟩) Q E s := by
  rcases s with ⟨hp, g, d, tk0, os⟩
  show wpAny (model prog w) A (field (.ref z) 2 >>= _) _ E _
  refine wpAny_bind (wpAny_field (i := 2) hz rfl (x := .bool false) rfl ?_)
  show wpAny (model prog w) A (field (.ref z) 3 >>= _) _ E _
  refine wpAny_bind (wpAny_field (i := 3) hz rfl (x := .ref TI) rfl ?_)
  refine wpAny_bind (wpAny_seqItems (a := TI) hTI hI ?_)
  have ne : its.isEmpty = false := by
    rcases its with ⟨l⟩
    cases l with
    | nil => cases hits
    | cons => rfl
  simp only [ne, if_false, Bool.false_eq_true]
  show wpAny (model prog w) A (Builtin.SmallTypes.ownedTupleIsFree (.ref z) >>= _) _ E _
  refine wpAny_bind (owned_any hz hv ?_ fun k0 hk0 hs0 => ?_)
  · simp only [if_true]
    refine wpAny_bind (wpAny_rule (wpAny_bind (wpAny_field (i := 4) hz rfl (x := .ref TO) rfl ?_)))
    refine wpAny_bind (wpAny_setField_rec hz (by simp) fun k0 hk0 hs0 => ?_)
    replace hk0 : ZipSt k0 z TI TO .ellipsis f := hk0
    replace hs0 : Heap.SameBut z hp k0 := hs0
    rw [hits]
    simp only [List.forIn_cons, List.zipIdx_cons]
    refine wpAny_bind (wpAny_bind (wpAny_bind (wpAny_onRaise ?_)))
    show wpAny (model prog w) A (Builtin.SmallTypes.nextOf (.ref i1) >>= _) _ _ ⟨k0, g, d, tk0, os⟩
    refine wpAny_bind (D1.done ⟨k0, g, d, tk0, os⟩ _ _ (D1.over st1 hs0 zf) fun q e hq he => ?_)
    replace hq : Heap.ExtBut i1 k0 q := hq
    obtain ⟨oe, hoe, hce⟩ := he
    replace hoe : q.get? e = some oe := hoe
    have zq : ZipSt q z TI TO .ellipsis f := hq _ _ zi hk0
    have ez : e ≠ z := fun x => by subst x; rw [zq] at hoe; cases hoe; simp at hce
    refine wpAny_setField_rec (s := ⟨q, g, d, tk0, os⟩) zq (by simp) fun q' _ hq' => ?_
    replace hq' : Heap.SameBut z q q' := hq'
    exact hE q' e (fun c o cz c1 x => hq'.extBut _ _ cz (hq _ _ c1 (hs0.extBut _ _ cz x))) ⟨oe, hq'.extBut _ _ ez hoe, hce⟩
  · simp only [if_false, Bool.false_eq_true]
    replace hs0 : Heap.SameBut z hp k0 := hs0
    refine wpAny_bind ?_
    rw [← Array.forIn_toList, hits]
    simp only [List.forIn_cons]
    refine wpAny_bind (wpAny_bind (wpAny_holding ?_))
    show wpAny (model prog w) A (Builtin.SmallTypes.nextOf (.ref i1) >>= _) _ _ ⟨k0, g, d, tk0, os⟩
    refine wpAny_bind (D1.done ⟨k0, g, d, tk0, os⟩ _ _ (D1.over st1 hs0 zf) fun q e hq he => ?_)
    replace hq : Heap.ExtBut i1 k0 q := hq
    exact hE q e (fun c o cz c1 x => hq _ _ c1 (hs0.extBut _ _ cz x)) he
theorem zip2_next {Q : Option Value → Shared → Prop} (S : ZipSep2 z TI TO i1 i2 fp1 fp2) (D1 : Draws prog w A.in1 i1 fp1 n1 P1 St1) (D2 : Draws prog w A.in1 i2 fp2 n2 P2 St2)
    (hz : ZipSt s.heap z TI TO v f) (hv : Out v) (hTI : IsTupOf2 s.heap TI (.ref i1) (.ref i2)) (hTO : IsTupOf2 s.heap TO a1 a2) (st1 : St1 i s.heap) (st2 : St2 i s.heap) (l1 : i < n1) (l2 : i < n2)
    (hQ : ∀ x1 x2 h' tk, Drew2 i P1 P2 St1 St2 z TI TO i1 i2 s.heap h' x1 x2 → Q (some (.ref s.heap.objs.size)) { s with heap := h', toks := tk }) : wpAny (model prog w) A (pyNext (.ref z)) Q E s := by
  have ty : s.TypeIs (.ref z) "zip" := ⟨_, hz, rfl⟩
  unfold pyNext
  exact wpAny_bind (wpAny_attempt (wpAny_callSpecial?_slot (name := Str.ofString "__next__") ty F.slot_zip_next (wpAny_call_entry F.slot_zip_next ty F.entry_zip_next
    (zip2_any_item S D1 D2 hz hv hTI hTO st1 st2 l1 l2 fun x1 x2 h' tk d => wpAny_pure (hQ x1 x2 h' tk d)) (F.args_zip_next_1 _))))
theorem zip1_next {Q : Option Value → Shared → Prop} (S : Sep1 z TI TO i1 fp1) (D1 : Draws prog w A.in1 i1 fp1 n1 P1 St1)
    (hz : ZipSt s.heap z TI TO v f) (hv : Out v) (hTI : IsTupOf1 s.heap TI (.ref i1)) (hTO : IsTupOf1 s.heap TO a1) (st1 : St1 i s.heap) (l1 : i < n1)
    (hQ : ∀ x1 h' tk, Drew1 i P1 St1 z TI TO i1 s.heap h' x1 → Q (some (.ref s.heap.objs.size)) { s with heap := h', toks := tk }) : wpAny (model prog w) A (pyNext (.ref z)) Q E s := by
  have ty : s.TypeIs (.ref z) "zip" := ⟨_, hz, rfl⟩
  unfold pyNext
  exact wpAny_bind (wpAny_attempt (wpAny_callSpecial?_slot (name := Str.ofString "__next__") ty F.slot_zip_next (wpAny_call_entry F.slot_zip_next ty F.entry_zip_next
    (zip1_any_item S D1 hz hv hTI hTO st1 l1 fun x1 h' tk d => wpAny_pure (hQ x1 h' tk d)) (F.args_zip_next_1 _))))
theorem zip_next_end {Q : Option Value → Shared → Prop} {its : Array Value} {rest : List Value} {oI : Obj} {m : Nat} (hits : its.toList = .ref i1 :: rest) (D1 : Draws prog w A.in1 i1 fp1 n1 P1 St1) (zi : z ≠ i1) (zf : z ∉ fp1)
    (hz : ZipSt s.heap z TI TO v f) (hv : Out v) (hTI : s.heap.get? TI = some oI) (hI : oI.data = .seq its m) (st1 : St1 n1 s.heap)
    (hQ : ∀ h', (∀ c o, c ≠ z → c ≠ i1 → s.heap.get? c = some o → h'.get? c = some o) → Q none { s with heap := h' }) : wpAny (model prog w) A (pyNext (.ref z)) Q E s := by
  have ty : s.TypeIs (.ref z) "zip" := ⟨_, hz, rfl⟩
  unfold pyNext
  refine wpAny_bind (wpAny_attempt (wpAny_callSpecial?_slot (name := Str.ofString "__next__") ty F.slot_zip_next (wpAny_call_entry F.slot_zip_next ty F.entry_zip_next
    (zip_any_end hits D1 zi zf hz hv hTI hI st1 fun h' e hk he => ?_) (F.args_zip_next_1 _))))
  obtain ⟨o, ho, hc⟩ := he
  exact wpAny_bind (wpAny_isInstance (T := "StopIteration") (b := true) ⟨o, ho, hc⟩ isSubtype_stop (wpAny_pure (hQ _ hk)))
theorem iter_zipSt {Q : Value → Shared → Prop} (hz : ZipSt s.heap z TI TO v f) (h : Q (.ref z) s) : wpAny (model prog w) A (pyIter (.ref z)) Q E s := by
  have ty : s.TypeIs (.ref z) "zip" := ⟨_, hz, rfl⟩
  exact wpAny_pyIter_slot ty F.slot_zip_iter (wpAny_call_entry F.slot_zip_iter ty F.entry_zip_iter (wpAny_pure ⟨_, rfl, "zip", _, ty, F.slot_zip_next.lookup, h⟩) (F.args_zip_iter_1 _))
theorem zip_no_len : typeLookup (.type "zip") "__len__" = pure none := by rw [typeLookup_type, builtinLookup_eq_fast]; kernel_rfl
theorem zip_no_hint : typeLookup (.type "zip") "__length_hint__" = pure none := by rw [typeLookup_type, builtinLookup_eq_fast]; kernel_rfl
/-- what list(zip(a, b)) has made -/
structure ZB (P1 P2 : Nat → Value → Prop) (z TO i1 i2 S : Addr) (h0 : Heap) (i : Nat) (acc : Array Value) (h : Heap) : Prop where
  ls : ∃ c, h.get? S = some { cls := .type "list", dict := none, data := .seq acc c, slots := #[] }
  ac : ∃ Ts : List Addr, acc.toList = Ts.map Value.ref ∧ Ts.length = i ∧ Ts.Nodup ∧ (∀ T ∈ Ts, h0.objs.size ≤ T) ∧ ∀ (j : Nat) T, Ts[j]? = some T → ∃ x y, P1 j x ∧ P2 j y ∧ IsTupOf2 h T x y
  kp : ∀ c o, c ≠ z → c ≠ TO → c ≠ i1 → c ≠ i2 → c ≠ S → h0.get? c = some o → h.get? c = some o
/-- what stands while list(zip(a, b)) goes on -/
structure ZL (P1 P2 : Nat → Value → Prop) (St1 St2 : Nat → Heap → Prop) (z TI TO i1 i2 S : Addr) (h0 : Heap) (i : Nat) (acc : Array Value) (h : Heap) : Prop where
  zs : ∃ v f, ZipSt h z TI TO v f ∧ Out v
  ti : IsTupOf2 h TI (.ref i1) (.ref i2)
  to : ∃ b1 b2, IsTupOf2 h TO b1 b2
  s1 : St1 i h
  s2 : St2 i h
  sz : h0.objs.size ≤ h.objs.size
  b : ZB P1 P2 z TO i1 i2 S h0 i acc h
theorem zl_loop {R : Result → Shared → Prop} {S : Addr} {res : Value} {n : Nat} {h0 : Heap} (Z : ZipSep2 z TI TO i1 i2 fp1 fp2) (D1 : Draws prog w A.in1.in1 i1 fp1 n P1 St1) (D2 : Draws prog w A.in1.in1 i2 fp2 n P2 St2)
    (Sz : S ≠ z) (STI : S ≠ TI) (STO : S ≠ TO) (Si1 : S ≠ i1) (Si2 : S ≠ i2) (Sf1 : S ∉ fp1) (Sf2 : S ∉ fp2) (hn : n ≤ sizeLine) (old : ∀ c, c = z ∨ c = TI ∨ c = TO ∨ c = i1 ∨ c = i2 ∨ c = S → c < h0.objs.size)
    (hR : ∀ acc h' tk, ZB P1 P2 z TO i1 i2 S h0 n acc h' → R (.ok (.ret res)) { s with heap := h', toks := tk }) :
    ∀ (k i : Nat) (h : Heap) (tk : Nat) (acc : Array Value), i + k = n → ZL P1 P2 St1 St2 z TI TO i1 i2 S h0 i acc h → codeAny (model prog w) A (.builtin "list.extend.loop" ⟨[.ref S, .ref z, res], []⟩) R { s with heap := h, toks := tk }
  | 0, i, h, tk, acc, hk, J => by
    obtain rfl : i = n := hk
    refine codeAny_builtin (A := A) F.entry_extend_loop ?_
    rw [Around.under_plainId (A := A) F.plain_extend_loop _]
    show wpAny (model prog w) A.in1 (pyNext (.ref z) >>= _) _ _ _
    obtain ⟨v, f, hz, hv⟩ := J.zs
    refine wpAny_bind (zip_next_end (its := #[.ref i1, .ref i2]) (oI := { cls := .type "tuple", data := .seq #[.ref i1, .ref i2] }) rfl D1 Z.zi1 Z.zf1 hz hv J.ti rfl J.s1 fun h' hk => wpAny_pure (hR acc h' tk ?_))
    obtain ⟨c, hS⟩ := J.b.ls
    obtain ⟨Ts, e1, e2, nd, fr, ct⟩ := J.b.ac
    have zl := old z (by simp)
    have il := old i1 (by simp)
    refine ⟨⟨c, hk _ _ Sz Si1 hS⟩, ⟨Ts, e1, e2, nd, fr, fun j T e => ?_⟩, fun c o h1 h2 h3 h4 h5 e => hk _ _ h1 h3 (J.b.kp c o h1 h2 h3 h4 h5 e)⟩
    obtain ⟨x, y, px, py, hT⟩ := ct j T e
    have hb := fr T (List.mem_of_getElem? e)
    exact ⟨x, y, px, py, hk _ _ (Nat.ne_of_gt (Nat.lt_of_lt_of_le zl hb)) (Nat.ne_of_gt (Nat.lt_of_lt_of_le il hb)) hT⟩
  | k + 1, i, h, tk, acc, hk, J => by
    refine codeAny_builtin (A := A) F.entry_extend_loop ?_
    rw [Around.under_plainId (A := A) F.plain_extend_loop _]
    show wpAny (model prog w) A.in1 (pyNext (.ref z) >>= _) _ _ _
    obtain ⟨v, f, hz, hv⟩ := J.zs
    obtain ⟨b1, b2, hTO⟩ := J.to
    obtain ⟨c, hS⟩ := J.b.ls
    obtain ⟨Ts, e1, e2, nd, fr, ct⟩ := J.b.ac
    refine wpAny_bind (zip2_next Z D1 D2 hz hv J.ti hTO J.s1 J.s2 (by omega) (by omega) fun x1 x2 h' tk' d => ?_)
    have asz : acc.size = i := by rw [← Array.length_toList, e1, List.length_map, e2]
    have hS' := d.kp S _ Sz STO Si1 Si2 hS
    show wpAny (model prog w) A.in1 (updateSeq S (·.push (.ref h.objs.size)) >>= _) _ _ _
    refine wpAny_bind (wpAny_updateSeq (a := S) hS' rfl (wpAny_pure ⟨plainId_quiet F.plain_extend_loop _, zl_loop Z D1 D2 Sz STI STO Si1 Si2 Sf1 Sf2 hn old hR k (i + 1) _ _ (acc.push (.ref h.objs.size)) (by omega) ?_⟩) (by omega) (by show (acc.push _).size ≤ sizeLine + 1; rw [Array.size_push]; omega))
    have o : ∀ (b : Addr) (ob : Obj), b ≠ S → h'.get? b = some ob → (h'.update S (Obj.mapSeq (·.push (.ref h.objs.size)))).get? b = some ob := fun b ob hb e => (Heap.get?_update_other _ _ (Ne.symm hb)).trans e
    obtain ⟨v', f', hz', hv'⟩ := d.zs
    obtain ⟨c1, c2, hTO'⟩ := d.to
    have big : ∀ c, c = z ∨ c = TI ∨ c = TO ∨ c = i1 ∨ c = i2 ∨ c = S → h.objs.size ≠ c := fun c hc => Nat.ne_of_gt (Nat.lt_of_lt_of_le (old c hc) J.sz)
    have keepT : ∀ T ∈ Ts, ∀ x y, IsTupOf2 h T x y → IsTupOf2 (h'.update S (Obj.mapSeq (·.push (.ref h.objs.size)))) T x y := fun T hT x y e => by
      have hb := fr T hT
      have ne : ∀ c, c = z ∨ c = TI ∨ c = TO ∨ c = i1 ∨ c = i2 ∨ c = S → T ≠ c := fun c hc => Nat.ne_of_gt (Nat.lt_of_lt_of_le (old c hc) hb)
      exact o _ _ (ne S (by simp)) (d.kp _ _ (ne z (by simp)) (ne TO (by simp)) (ne i1 (by simp)) (ne i2 (by simp)) e)
    refine ⟨⟨v', f', o _ _ Sz.symm hz', hv'⟩, o _ _ STI.symm (d.kp _ _ Z.TIz Z.TITO Z.TIi1 Z.TIi2 J.ti), ⟨c1, c2, o _ _ STO.symm hTO'⟩, D1.frame _ _ _ d.s1 fun b hb ob e => o _ _ (fun q => Sf1 (q ▸ hb)) e, D2.frame _ _ _ d.s2 fun b hb ob e => o _ _ (fun q => Sf2 (q ▸ hb)) e,
      by rw [Heap.size_update, d.sz]; exact Nat.le_succ_of_le J.sz, ⟨⟨_, Heap.get?_update_self _ hS' rfl⟩, ⟨Ts ++ [h.objs.size], by rw [Array.toList_push, e1, List.map_append]; rfl, by rw [List.length_append, e2]; rfl, ?_, fun T hT => ?_, fun j T e => ?_⟩, fun c ob h1 h2 h3 h4 h5 e => o _ _ h5 (d.kp _ _ h1 h2 h3 h4 (J.b.kp c ob h1 h2 h3 h4 h5 e))⟩⟩
    · refine List.nodup_append.mpr ⟨nd, by simp, fun a ha b hb => ?_⟩
      rw [List.mem_singleton.mp hb]
      obtain ⟨j, e⟩ := List.mem_iff_getElem?.mp ha
      obtain ⟨x, y, _, _, hT⟩ := ct j a e
      exact Nat.ne_of_lt (Heap.lt_size hT)
    · rcases List.mem_append.mp hT with h1 | h1
      · exact fr T h1
      · rw [List.mem_singleton.mp h1]; exact J.sz
    · by_cases hj : j < Ts.length
      · rw [List.getElem?_append_left hj] at e
        obtain ⟨x, y, px, py, hT⟩ := ct j T e
        exact ⟨x, y, px, py, keepT T (List.mem_of_getElem? e) x y hT⟩
      · rw [List.getElem?_append_right (by omega)] at e
        have hj2 : j - Ts.length = 0 := by
          have := (List.getElem?_eq_some_iff.mp e).1
          simp at this
          omega
        rw [hj2] at e
        obtain rfl : h.objs.size = T := Option.some.inj e
        have hji : j = i := by omega
        subst hji
        exact ⟨x1, x2, d.p1, d.p2, o _ _ (big S (by simp)) d.tp⟩
theorem ext_zip {R : Result → Shared → Prop} {S : Addr} {res : Value} {n c0 : Nat} (Z : ZipSep2 z TI TO i1 i2 fp1 fp2) (D1 : Draws prog w A.in1.in1 i1 fp1 n P1 St1) (D2 : Draws prog w A.in1.in1 i2 fp2 n P2 St2)
    (Sz : S ≠ z) (STI : S ≠ TI) (STO : S ≠ TO) (Si1 : S ≠ i1) (Si2 : S ≠ i2) (Sf1 : S ∉ fp1) (Sf2 : S ∉ fp2) (hn : n ≤ sizeLine) (old : ∀ c, c = z ∨ c = TI ∨ c = TO ∨ c = i1 ∨ c = i2 ∨ c = S → c < s.heap.objs.size)
    (hz : ZipSt s.heap z TI TO v f) (hv : Out v) (hTI : IsTupOf2 s.heap TI (.ref i1) (.ref i2)) (hTO : IsTupOf2 s.heap TO a1 a2) (st1 : St1 0 s.heap) (st2 : St2 0 s.heap) (hS : s.heap.get? S = some { cls := .type "list", data := .seq #[] c0 })
    (hR : ∀ acc h' tk, ZB P1 P2 z TO i1 i2 S s.heap n acc h' → R (.ok (.ret res)) { s with heap := h', toks := tk }) :
    wpAny (model prog w) A.in1 (Builtin.List.listExtendWith (.ref S) (.ref z) res) (fun r t => match r with | .done f => R (.ok f) t | .again c' => c'.quiet = true ∧ codeAny (model prog w) A c' R t) (fun e t => R (.error e) t) s := by
  have ty : ∀ {h : Heap} {tk : Nat}, ZipSt h z TI TO v f → ({ s with heap := h, toks := tk } : Shared).TypeIs (.ref z) "zip" := fun q => ⟨_, q, rfl⟩
  unfold Builtin.List.listExtendWith
  refine wpAny_bind (wpAny_typeOf (ty hz) ?_)
  have g1 : Builtin.List.listSameRef (.ref S) (.ref z) = false := by simp [Builtin.List.listSameRef, Sz]
  have g2 : (Value.type "zip" == Value.type "list") = false := by decide
  have g3 : (Value.type "zip" == Value.type "tuple") = false := by decide
  simp only [g1, g2, g3, Bool.or_false, if_false, Bool.false_eq_true]
  refine wpAny_bind (iter_zipSt hz (wpAny_bind (wpAny_holding ?_)))
  unfold Builtin.List.listLengthHint
  refine wpAny_bind (wpAny_specialOf (ty hz) zip_no_len ?_)
  show wpAny (model prog w) A.in1 (specialOf (.ref z) (Str.ofString "__length_hint__") >>= _) _ _ _
  refine wpAny_bind (wpAny_specialOf (ty hz) zip_no_hint (wpAny_pure ?_))
  show wpAny (model prog w) A.in1 (rule "list.extend.makes-room" >>= fun _ => Builtin.List.listTouch (.ref S) >>= fun _ => PySem.again (.builtin "list.extend.loop" ⟨[.ref S, .ref z, res], []⟩)) _ _ _
  refine wpAny_bind (wpAny_rule (wpAny_bind ?_))
  show wpAny (model prog w) A.in1 (updateSeq S (·.push .none) >>= fun _ => updateSeq S (·.pop)) _ _ _
  have k1 := Heap.get?_update_self (Obj.mapSeq (·.push Value.none)) hS rfl
  refine wpAny_bind (wpAny_updateSeq (a := S) hS rfl (wpAny_updateSeq (hz := by seq_fits) (a := S) k1 rfl ?_))
  have k2 := Heap.get?_update_self (Obj.mapSeq (·.pop)) k1 rfl
  have oth : ∀ b o, b ≠ S → s.heap.get? b = some o → ((s.heap.update S (Obj.mapSeq (·.push Value.none))).update S (Obj.mapSeq (·.pop))).get? b = some o := fun b o hb e => (Heap.get?_update_other _ _ hb.symm).trans ((Heap.get?_update_other _ _ hb.symm).trans e)
  refine wpAny_pure ⟨plainId_quiet F.plain_extend_loop _, zl_loop (s := s) (h0 := s.heap) Z D1 D2 Sz STI STO Si1 Si2 Sf1 Sf2 hn old hR n 0 _ _ #[] (Nat.zero_add _) ?_⟩
  exact ⟨⟨v, f, oth _ _ Sz.symm hz, hv⟩, oth _ _ STI.symm hTI, ⟨_, _, oth _ _ STO.symm hTO⟩, D1.frame _ _ _ st1 fun b hb o e => oth _ _ (fun q => Sf1 (q ▸ hb)) e, D2.frame _ _ _ st2 fun b hb o e => oth _ _ (fun q => Sf2 (q ▸ hb)) e,
    by rw [Heap.size_update, Heap.size_update]; exact Nat.le_refl _, ⟨⟨_, k2⟩, ⟨[], rfl, rfl, List.nodup_nil, (fun T h => nomatch h), (fun j T e => by simp at e)⟩, fun c o _ _ _ _ h5 e => oth _ _ h5 e⟩⟩
theorem call_list_zip2 {Q : Value → Shared → Prop} {n : Nat} (Z : ZipSep2 z TI TO i1 i2 fp1 fp2) (D1 : Draws prog w A.in1.in1.in1 i1 fp1 n P1 St1) (D2 : Draws prog w A.in1.in1.in1 i2 fp2 n P2 St2)
    (Sf1 : s.heap.objs.size ∉ fp1) (Sf2 : s.heap.objs.size ∉ fp2) (hn : n ≤ sizeLine)
    (hz : ZipSt s.heap z TI TO v f) (hv : Out v) (hTI : IsTupOf2 s.heap TI (.ref i1) (.ref i2)) (hTO : IsTupOf2 s.heap TO a1 a2) (st1 : St1 0 s.heap) (st2 : St2 0 s.heap)
    (hQ : ∀ acc h' tk h0, ZB P1 P2 z TO i1 i2 s.heap.objs.size h0 n acc h' → s.heap.objs.size < h0.objs.size → (∀ c o, s.heap.get? c = some o → h0.get? c = some o) → Q (.ref s.heap.objs.size) { s with heap := h', toks := tk }) :
    wpAny (model prog w) A (call (.type "list") [.ref z]) Q E s := by
  refine callType_codes (Q₁ := fun obj t => obj = .ref s.heap.objs.size ∧ t = { s with heap := s.heap.push { cls := .type "list", data := .seq #[] } }) F.called_list (F.typeCall_list_1 _) F.entry_list_init (code_list_new _ ⟨rfl, rfl⟩) fun obj t ht => ?_
  obtain ⟨rfl, rfl⟩ := ht
  have up : ∀ c o, s.heap.get? c = some o → (s.heap.push { cls := .type "list", data := .seq #[] }).get? c = some o := fun c o e => Heap.get?_push_of_some _ e
  have hS : (s.heap.push { cls := .type "list", data := .seq #[] }).get? s.heap.objs.size = some { cls := .type "list", data := .seq #[] } := Heap.get?_push_size _ rfl
  have lt : ∀ {c o}, s.heap.get? c = some o → c < s.heap.objs.size := fun e => Heap.lt_size e
  obtain ⟨o1, l1⟩ := D1.live _ _ st1
  obtain ⟨o2, l2⟩ := D2.live _ _ st2
  have ne : ∀ {c o}, s.heap.get? c = some o → s.heap.objs.size ≠ c := fun e => Nat.ne_of_gt (lt e)
  refine ⟨⟨_, hS, rfl⟩, F.args_list_init_2 _ _, ?_⟩
  show wpAny (model prog w) A.in1.in1 (do let old ← Builtin.List.listItems (.ref s.heap.objs.size); Builtin.List.listUpdate (.ref s.heap.objs.size) (fun _ => #[]); letGo old.toList.reverse; Builtin.List.listExtendWith (.ref s.heap.objs.size) (.ref z) .none) _ _ _
  refine wpAny_bind ?_
  unfold Builtin.List.listItems
  refine wpAny_bind (wpAny_seqItems (a := s.heap.objs.size) hS rfl (wpAny_pure ?_))
  show wpAny (model prog w) A.in1.in1 (updateSeq s.heap.objs.size (fun _ => #[]) >>= fun _ => letGo (#[] : Array Value).toList.reverse >>= fun _ => Builtin.List.listExtendWith (.ref s.heap.objs.size) (.ref z) .none) _ _ _
  refine wpAny_bind (wpAny_updateSeq (a := s.heap.objs.size) hS rfl (wpAny_bind (wpAny_letGo ?_)))
  have k2 := Heap.get?_update_self (Obj.mapSeq (fun _ => (#[] : Array Value))) hS rfl
  have oth : ∀ b o, b ≠ s.heap.objs.size → s.heap.get? b = some o → ((s.heap.push { cls := .type "list", data := .seq #[] }).update s.heap.objs.size (Obj.mapSeq (fun _ => (#[] : Array Value)))).get? b = some o := fun b o hb e => (Heap.get?_update_other _ _ hb.symm).trans (up b o e)
  have oth2 : ∀ c o, s.heap.get? c = some o → ((s.heap.push { cls := .type "list", data := .seq #[] }).update s.heap.objs.size (Obj.mapSeq (fun _ => (#[] : Array Value)))).get? c = some o := fun c o e => oth c o (ne e).symm e
  have sz : ((s.heap.push { cls := .type "list", data := .seq #[] }).update s.heap.objs.size (Obj.mapSeq (fun _ => (#[] : Array Value)))).objs.size = s.heap.objs.size + 1 := by rw [Heap.size_update, Heap.size_push]
  refine ext_zip (A := A.in1) Z D1 D2 (ne hz) (ne hTI) (ne hTO) (ne l1) (ne l2) Sf1 Sf2 hn (fun c hc => ?_) (oth2 _ _ hz) hv (oth2 _ _ hTI) (oth2 _ _ hTO) (D1.frame _ _ _ st1 fun b hb o e => oth2 _ _ e) (D2.frame _ _ _ st2 fun b hb o e => oth2 _ _ e) k2 fun acc h' tk hb => ?_
  · show c < ((s.heap.push _).update _ _).objs.size
    rw [sz]
    rcases hc with rfl | rfl | rfl | rfl | rfl | rfl
    · exact Nat.lt_succ_of_lt (lt hz)
    · exact Nat.lt_succ_of_lt (lt hTI)
    · exact Nat.lt_succ_of_lt (lt hTO)
    · exact Nat.lt_succ_of_lt (lt l1)
    · exact Nat.lt_succ_of_lt (lt l2)
    · exact Nat.lt_succ_self _
  · exact ⟨rfl, hQ acc h' tk _ hb (by show _ < ((s.heap.push _).update _ _).objs.size; rw [sz]; exact Nat.lt_succ_self _) oth2⟩
end
abbrev yT1 (h : Heap) (o1 : Obj) : Heap := (h.push o1).push { cls := .type "tuple", data := .seq #[.ref h.objs.size] }
abbrev yO1 (h : Heap) (o1 : Obj) : Heap := (yT1 h o1).push { cls := .type "tuple", data := .seq #[.none] }
abbrev yZ1 (h : Heap) (o1 : Obj) : Heap := (yO1 h o1).push { cls := .type "zip", data := .fields #[.none, .bool false, .bool false, .ref (h.push o1).objs.size, .ref (yT1 h o1).objs.size] }
theorem zipT_1 (a : Value) : checkTypeCall "zip" ⟨[a], []⟩ = pure () := by kernel_rfl
theorem zipN_1 (a : Value) : checkBuiltinCall "zip.__new__" ⟨[.type "zip", a], []⟩ = pure () := by kernel_rfl
theorem args_oi_2 (a b : Value) : argsOk "object.__init__" ⟨[a, b], []⟩ := by unfold argsOk; kernel_rfl
theorem meets_zip1 {v1 : Value} {o1 : Obj} {H1 : Heap → Prop} (B1 : Begins v1 o1 H1) :
    Meets (Builtin.«zip.__new__» ⟨[.type "zip", v1], []⟩) (fun _ R s => H1 s.heap ∧ R (.ok (.ret (.ref (yO1 s.heap o1).objs.size))) { s with heap := yZ1 s.heap o1 }) :=
  .of_wp fun prog w A R s h => by
    rcases s with ⟨hp, g, d, tk, os⟩
    obtain ⟨h1, h⟩ := h
    have hsub := sub_zip
    have q1 : ∀ {A' : Around} {E : Value → Shared → Prop} {Q : Value → Shared → Prop}, Q (.ref hp.objs.size) ⟨hp.push o1, g, d, tk, os⟩ → wpAny (model prog w) A' (pyIter v1) Q E ⟨hp, g, d, tk, os⟩ := fun q => B1.iter prog w _ _ ⟨hp, g, d, tk, os⟩ _ h1 q
    wp_walk using q1
    exact ⟨_, rfl, h⟩
theorem zip_begins1 {prog : Program} {w : World} {A : Around} {E : Value → Shared → Prop} {s : Shared} {v1 : Value} {o1 : Obj} {H1 : Heap → Prop} {Q : Value → Shared → Prop} (B1 : Begins v1 o1 H1) (h1 : H1 s.heap)
    (h : ∀ h', ZipSt h' (s.heap.objs.size + 3) (s.heap.objs.size + 1) (s.heap.objs.size + 2) .none false → IsTupOf1 h' (s.heap.objs.size + 1) (.ref s.heap.objs.size) → IsTupOf1 h' (s.heap.objs.size + 2) .none → h'.get? s.heap.objs.size = some o1 → h'.objs.size = s.heap.objs.size + 4 →
      (∀ c o, s.heap.get? c = some o → h'.get? c = some o) → Q (.ref (s.heap.objs.size + 3)) { s with heap := h' }) : wpAny (model prog w) A (call (.type "zip") [v1]) Q E s := by
  refine callType_new F.called_zip (by decide) (zipT_1 _) (zipN_1 _) (fun obj => args_oi_2 obj _) F.entry_zip_new (meets_zip1 B1) ⟨h1, ?_⟩
  have z1 : (s.heap.push o1).objs.size = s.heap.objs.size + 1 := Heap.size_push ..
  have zT : (yT1 s.heap o1).objs.size = s.heap.objs.size + 2 := by rw [Heap.size_push, z1]
  have zO : (yO1 s.heap o1).objs.size = s.heap.objs.size + 3 := by rw [Heap.size_push, zT]
  have zZ : (yZ1 s.heap o1).objs.size = s.heap.objs.size + 4 := by rw [Heap.size_push, zO]
  have gZ : (yZ1 s.heap o1).get? (yO1 s.heap o1).objs.size = some { cls := .type "zip", data := .fields #[.none, .bool false, .bool false, .ref (s.heap.push o1).objs.size, .ref (yT1 s.heap o1).objs.size] } := Heap.get?_push_size _ rfl
  have gO : (yZ1 s.heap o1).get? (yT1 s.heap o1).objs.size = some { cls := .type "tuple", data := .seq #[.none] } := Heap.get?_push_of_some _ (Heap.get?_push_size _ rfl)
  have gT : (yZ1 s.heap o1).get? (s.heap.push o1).objs.size = some { cls := .type "tuple", data := .seq #[.ref s.heap.objs.size] } := Heap.get?_push_of_some _ (Heap.get?_push_of_some _ (Heap.get?_push_size _ rfl))
  have g1 : (yZ1 s.heap o1).get? s.heap.objs.size = some o1 := Heap.get?_push_of_some _ (Heap.get?_push_of_some _ (Heap.get?_push_of_some _ (Heap.get?_push_size _ B1.free)))
  rw [zO, zT, z1] at gZ
  rw [zT] at gO
  rw [z1] at gT
  show _ ∧ _
  rw [zO]
  exact ⟨⟨_, gZ, rfl⟩, h _ gZ gT gO g1 zZ fun c o e => Heap.get?_push_of_some _ (Heap.get?_push_of_some _ (Heap.get?_push_of_some _ (Heap.get?_push_of_some _ e)))⟩
end Tf

set_option Elab.async false
set_option linter.all false
set_option maxRecDepth 100000
set_option maxHeartbeats 2000000
/-! list(zip(t, u)); a comprehension over zip(*xs) -/
namespace Tf
open PySem PySem.Spec PyProof.Rows L2
section
variable {X : Cx} {pins : List (Addr × Obj)} {σ : L2.St} {H : Hp} {s : Shared}
/-- an object that lies there, new since the entry, is tracked from now on -/
theorem trackO {a : Addr} {o : HO} (I : Inv X pins σ H s) (fp : FpOk X pins H a) (s0 : X.s_0.heap.objs.size ≤ a) (new : ObjOk X.prog X.w (upd H a o) s.heap a o) : Inv X pins σ (upd H a o) s := by
  obtain ⟨na, nL, nf, _, nc, np⟩ := fp
  have ne0 : ∀ b u, X.s_0.heap.get? b = some u → b ≠ a := fun b u e z => by
    subst z
    exact absurd (Nat.lt_of_lt_of_le (Heap.lt_size e) s0) (Nat.lt_irrefl _)
  refine ⟨I.ok, I.os, I.bare, ⟨I.base.keep, I.base.slot, fun b o e n hx => by rw [upd_ne (ne0 b o e)]; exact I.base.free b o e n hx, I.base.there, fun b xs e => ?_, fun b o u e => ?_, fun b ps e => ?_⟩, I.loc, I.cell, by rw [upd_ne (Ne.symm nL)]; exact I.free, fun x c e => ?_, fun p hp => ?_, fun b u e => ?_, I.len⟩
  · rw [upd_ne (ne_of_none (I.base.tups b xs e) na)]; exact I.base.tups b xs e
  · rw [upd_ne (ne_of_none (I.base.frzs b o u e) na)]; exact I.base.frzs b o u e
  · obtain ⟨m, q⟩ := I.base.tbls b ps e
    exact ⟨m, by rw [upd_ne (ne_of_none q na)]; exact q⟩
  · rw [upd_ne (nc x c e)]; exact I.freeC x c e
  · obtain ⟨e, n, r⟩ := I.pin p hp
    exact ⟨e, by rw [upd_ne (np p hp)]; exact n, r⟩
  · by_cases hb : b = a
    · subst hb
      rw [upd_same] at e
      cases e
      exact new
    · rw [upd_ne hb] at e
      exact (I.hok b u e).stay (fun c v _ q => q) (fun c q => by rw [upd_ne (ne_of_none q na)]; exact q) fun c xs q => by rw [upd_ne (ne_of_none q na)]; exact q
def addT : Hp → List (Addr × List V) → Hp
  | H, [] => H
  | H, p :: r => addT (upd H p.1 (.tup p.2)) r
theorem addT_same : ∀ (r : List (Addr × List V)) (H : Hp), (r.map (·.1)).Nodup → (∀ p ∈ r, H p.1 = none) → Same H (addT H r) ∧ (∀ p ∈ r, addT H r p.1 = some (.tup p.2)) ∧ ∀ b, b ∉ r.map (·.1) → addT H r b = H b
  | [], H, _, _ => ⟨Same.refl _, (fun p h => nomatch h), fun b _ => rfl⟩
  | p :: r, H, nd, hn => by
    rw [List.map_cons, List.nodup_cons] at nd
    have h0 := hn p List.mem_cons_self
    obtain ⟨s1, g1, k1⟩ := addT_same r (upd H p.1 (.tup p.2)) nd.2 fun q hq => by rw [upd_ne (show q.1 ≠ p.1 from fun z => nd.1 (List.mem_map.mpr ⟨q, hq, z⟩))]; exact hn q (List.mem_cons_of_mem _ hq)
    refine ⟨Same.trans (same_new h0) s1, fun q hq => ?_, fun b hb => ?_⟩
    · rcases List.mem_cons.mp hq with rfl | hq
      · exact s1 _ _ upd_same
      · exact g1 q hq
    · rw [List.map_cons, List.mem_cons, not_or] at hb
      show addT (upd H p.1 (.tup p.2)) r b = _
      rw [k1 b hb.2, upd_ne hb.1]
theorem trackTs {N : Nat} (hf : ∀ (H' : Hp) b, N ≤ b → H' b = none → FpOk X pins H' b) (hs : X.s_0.heap.objs.size ≤ N) : ∀ (r : List (Addr × List V)) (H : Hp), Inv X pins σ H s → (r.map (·.1)).Nodup → (∀ p ∈ r, N ≤ p.1 ∧ H p.1 = none ∧ p.2.length ≤ sizeLine ∧ ∃ us : List Value, Vals p.2 us ∧ IsTup s.heap p.1 us.toArray) → Inv X pins σ (addT H r) s
  | [], H, I, _, _ => I
  | p :: r, H, I, nd, h => by
    rw [List.map_cons, List.nodup_cons] at nd
    obtain ⟨h1, h2, h3, us, h4, h5⟩ := h p List.mem_cons_self
    refine trackTs hf hs r _ (trackO I (hf H p.1 h1 h2) (Nat.le_trans hs h1) ⟨h3, us, h4, h5⟩) nd.2 fun q hq => ?_
    obtain ⟨g1, g2, g3⟩ := h q (List.mem_cons_of_mem _ hq)
    exact ⟨g1, by rw [upd_ne (show q.1 ≠ p.1 from fun z => nd.1 (List.mem_map.mpr ⟨q, hq, z⟩))]; exact g2, g3⟩
/-- list(zip(t, u)) of two tuples of one length -/
def tLstZip (K : PySem.W.Frag) (ta : TA) : TE := fun σ H Q => ta σ H fun vs H1 => ∃ a b xs ys, vs = [.ref a, .ref b] ∧ SqT K H1 a xs ∧ SqT K H1 b ys ∧ xs.length = ys.length ∧
  ∀ (L : Addr) (ts : List Addr) (H2 : Hp), Same H1 H2 → H1 L = none → H2 L = some (.lst (ts.map V.ref)) → ts.length = xs.length → (∀ (j : Nat) (t : Addr) (x y : V), ts[j]? = some t → xs[j]? = some x → ys[j]? = some y → H2 t = some (.tup [x, y])) → Q (.ref L) H2
theorem nm2 {x p q : Nat} (h1 : x ≠ p) (h2 : x ≠ q) : x ∉ [p, q] := fun h => by
  rcases List.mem_cons.mp h with e | h
  · exact h1 e
  · exact h2 (List.mem_singleton.mp h)
theorem sepN (N a b : Nat) (ha : a < N) (hb : b < N) : ZipSep2 (N + 4) (N + 2) (N + 3) N (N + 1) [N, a] [N + 1, b] := by
  have h1 : ∀ {i j : Nat}, i ≠ j → N + i ≠ N + j := fun h q => h (Nat.add_left_cancel q)
  exact ⟨h1 (by decide), h1 (by decide), h1 (by decide), h1 (j := 0) (by decide), by simp, nm2 (by omega) (by omega), nm2 (by omega) (by omega), h1 (by decide), by simp, nm2 (by omega) (by omega), nm2 (by omega) (by omega), nm2 (by omega) (by omega), nm2 (by omega) (by omega)⟩
theorem vals_at {xs : List V} {us : List Value} (h : Vals xs us) {j : Nat} {x : V} {u : Value} (e1 : xs[j]? = some x) (e2 : us[j]? = some u) : RelV x u := by
  obtain ⟨u', e3, r⟩ := h.get e1
  rw [e3] at e2
  exact Option.some.inj e2 ▸ r
def rowsZ (Ts : List Addr) (xs ys : List V) : List (Addr × List V) := (Ts.zip (xs.zip ys)).map fun p => (p.1, [p.2.1, p.2.2])
theorem rowsZ_fst {Ts : List Addr} {xs ys : List V} (h1 : Ts.length = xs.length) (h2 : xs.length = ys.length) : (rowsZ Ts xs ys).map (·.1) = Ts := by
  unfold rowsZ
  rw [List.map_map]
  exact List.map_fst_zip (by rw [List.length_zip]; omega)
theorem rowsZ_mem {Ts : List Addr} {xs ys : List V} {p : Addr × List V} (h : p ∈ rowsZ Ts xs ys) : ∃ (j : Nat) (x y : V), Ts[j]? = some p.1 ∧ xs[j]? = some x ∧ ys[j]? = some y ∧ p.2 = [x, y] := by
  obtain ⟨q, hq, rfl⟩ := List.mem_map.mp h
  obtain ⟨j, e⟩ := List.mem_iff_getElem?.mp hq
  obtain ⟨e1, e2⟩ := List.getElem?_zip_eq_some.mp e
  obtain ⟨e3, e4⟩ := List.getElem?_zip_eq_some.mp e2
  exact ⟨j, _, _, e1, e3, e4, rfl⟩
theorem rowsZ_of {Ts : List Addr} {xs ys : List V} {j : Nat} {t : Addr} {x y : V} (h1 : Ts[j]? = some t) (h2 : xs[j]? = some x) (h3 : ys[j]? = some y) : (t, [x, y]) ∈ rowsZ Ts xs ys :=
  List.mem_map.mpr ⟨(t, x, y), List.mem_iff_getElem?.mpr ⟨j, List.getElem?_zip_eq_some.mpr ⟨h1, List.getElem?_zip_eq_some.mpr ⟨h2, h3⟩⟩⟩, rfl⟩
theorem pe_listZip {e e2 : Expr} {ta : TA} {p p2 pos pos2 : Pos} (hc : X.calm = true) (hg : Gl X "list") (hm : X.mg "list" = none) (hg2 : Gl X "zip") (hm2 : X.mg "zip" = none) (ha : PA X [e, e2] ta)
    (na : starEach [.Call (.Name "zip" p2) [e, e2] [] pos2] X.env = (false, eval (.Call (.Name "zip" p2) [e, e2] [] pos2) X.env) :: starEach [] X.env := by rfl)
    (hpl : ((backTo pos2 (starEach [e, e2] X.env)).any (·.1)) = false := by rfl) : PE X (.Call (.Name "list" p) [.Call (.Name "zip" p2) [e, e2] [] pos2] [] pos) (tLstZip X.K ta) := by
  refine ⟨fun pins s σ H Q I h => ?_⟩
  refine Call_ (ld_blt I hg hm PyProof.Rows.boot_list (PyProof.Rows.callWith_type1 (args_cons ?_ na) na))
  refine wpAny_Call_NameR (ld_blt (u := .type "zip") I hg2 hm2 (by rfl) (PyProof.Rows.callWith_type hpl (L2.FK.evalArgs_any hpl ?_)))
  refine thn (ha.run pos2 pins s σ H _ I h) fun us s2 ⟨vs, H2, I2, r1, a, b, xs, ys, ev, hx, hy, hl, q⟩ => ?_
  subst ev
  obtain ⟨u, u2, rfl, e1, e3⟩ := r1.two
  cases e1
  cases e3
  obtain ⟨i1, r, t1, lx⟩ := I2.tuple hx
  obtain ⟨i2, r2, t2, ly⟩ := I2.tuple hy
  refine zip_begins2 (begins_tuple a i1.toArray) (begins_tuple b i2.toArray) t1 t2 fun h' z1 z2 z3 z4 z5 hsz hk => args_nil ?_
  have la : a < s2.heap.objs.size := by obtain ⟨o, eo, _⟩ := t1; exact Heap.lt_size eo
  have lb : b < s2.heap.objs.size := by obtain ⟨o, eo, _⟩ := t2; exact Heap.lt_size eo
  have l1 : i1.toArray.size = xs.length := by rw [List.size_toArray, r.length]
  have l2 : i2.toArray.size = xs.length := by rw [List.size_toArray, ← r2.length, hl]
  have hh := I2.ok.hd hc
  have D1 := Draws.tuple (prog := X.prog) (w := X.w) (A := X.A.in1.in1.in1) hh s2.heap.objs.size a (Nat.ne_of_lt la) i1.toArray
  have D2 := Draws.tuple (prog := X.prog) (w := X.w) (A := X.A.in1.in1.in1) hh (s2.heap.objs.size + 1) b (Nat.ne_of_lt (Nat.lt_succ_of_lt lb)) i2.toArray
  rw [l1] at D1
  rw [l2] at D2
  have kt1 : IsTup h' a i1.toArray := by obtain ⟨o, eo, x⟩ := t1; exact ⟨o, hk _ _ eo, x⟩
  have kt2 : IsTup h' b i2.toArray := by obtain ⟨o, eo, x⟩ := t2; exact ⟨o, hk _ _ eo, x⟩
  refine call_list_zip2 (v := .none) (f := false) (sepN s2.heap.objs.size a b la lb) D1 D2 ?_ ?_ lx z1 (.inl rfl) z2 z3 ⟨⟨_, z4, rfl, rfl⟩, kt1⟩ ⟨⟨_, z5, rfl, rfl⟩, kt2⟩ fun acc hF tk h0 zb lt ext => ?_
  · show h'.objs.size ∉ _
    rw [hsz]; exact nm2 (by omega) (Nat.ne_of_gt (Nat.lt_of_lt_of_le la (by omega)))
  · show h'.objs.size ∉ _
    rw [hsz]; exact nm2 (by omega) (Nat.ne_of_gt (Nat.lt_of_lt_of_le lb (by omega)))
  · obtain ⟨⟨c, hL⟩, ⟨Ts, e1, e2, nd, fr, ct⟩, kp⟩ := zb
    replace hL : hF.get? h'.objs.size = some { cls := .type "list", dict := none, data := .seq acc c, slots := #[] } := hL
    replace lt : h'.objs.size < h0.objs.size := lt
    replace ext : ∀ c o, h'.get? c = some o → h0.get? c = some o := ext
    have bigN : s2.heap.objs.size ≤ h'.objs.size := by rw [hsz]; exact Nat.le_add_right _ _
    have bigT : ∀ T ∈ Ts, s2.heap.objs.size ≤ T ∧ h'.objs.size < T := fun T hT => ⟨Nat.le_trans (Nat.le_trans bigN (Nat.le_of_lt lt)) (fr T hT), Nat.lt_of_lt_of_le lt (fr T hT)⟩
    have I3 : Inv X pins σ H2 { s2 with heap := hF, toks := tk } := I2.kept (t' := tk) fun c o e => by
      have hc := Heap.lt_size e
      have ne : ∀ k : Nat, c ≠ s2.heap.objs.size + k := fun k => Nat.ne_of_lt (Nat.lt_of_lt_of_le hc (Nat.le_add_right _ _))
      refine kp c o (ne 4) (ne 3) (ne 0) (ne 1) ?_ (ext _ _ (hk _ _ e))
      show c ≠ h'.objs.size
      rw [hsz]; exact ne 5
    have lT : Ts.length = xs.length := e2
    have ft := rowsZ_fst lT hl
    have hn : ∀ p ∈ rowsZ Ts xs ys, H2 p.1 = none := fun p hp => I2.hok.fresh (bigT p.1 (by rw [← ft]; exact List.mem_map.mpr ⟨p, hp, rfl⟩)).1
    have I4 := trackTs (N := s2.heap.objs.size) (fun H' b hb hn => I2.fpOk hb hn) I2.sz (rowsZ Ts xs ys) H2 I3 (by rw [ft]; exact nd) fun p hp => by
      obtain ⟨j, x, y, q1, q2, q3, q4⟩ := rowsZ_mem hp
      obtain ⟨u, v, pu, pv, hT⟩ := ct j p.1 q1
      refine ⟨(bigT p.1 (List.mem_of_getElem? q1)).1, hn p hp, by rw [q4]; show 2 ≤ sizeLine; decide, [u, v], ?_, ⟨_, hT, rfl, 0, rfl⟩⟩
      rw [q4]
      exact .cons (vals_at r q2 (by rw [List.getElem?_toArray] at pu; exact pu)) (.cons (vals_at r2 q3 (by rw [List.getElem?_toArray] at pv; exact pv)) .nil)
    obtain ⟨s4, g4, k4⟩ := addT_same (rowsZ Ts xs ys) H2 (by rw [ft]; exact nd) hn
    have nL : h'.objs.size ∉ Ts := fun z => absurd (bigT _ z).2 (Nat.lt_irrefl _)
    have hL2 : H2 h'.objs.size = none := I2.hok.fresh bigN
    have hL4 : addT H2 (rowsZ Ts xs ys) h'.objs.size = none := by rw [k4 _ (by rw [ft]; exact nL)]; exact hL2
    have vr : Vals (Ts.map V.ref) acc.toList := by
      rw [e1]
      clear e1 e2 nd fr ct bigT lT ft hn I4 s4 g4 k4 nL hL4
      induction Ts with
      | nil => exact .nil
      | cons T Ts ih => exact .cons rfl ih
    have I5 := trackO (o := .lst (Ts.map V.ref)) I4 (I2.fpOk bigN hL4) (Nat.le_trans I2.sz bigN) ⟨by rw [List.length_map, lT]; exact lx, acc.toList, c, vr, by rw [Array.toArray_toList]; exact hL⟩
    refine ⟨.ref h'.objs.size, _, I5, rfl, q _ Ts _ (Same.trans s4 (same_new hL4)) hL2 upd_same lT fun j t x y q1 q2 q3 => ?_⟩
    rw [upd_ne (show t ≠ h'.objs.size from Nat.ne_of_gt (bigT t (List.mem_of_getElem? q1)).2)]
    exact g4 _ (rowsZ_of q1 q2 q3)
end
/-! ### for row in zip(*xs): one or two lists -/
section
theorem callWith_starT {M : Model} {A : Around} {E : Value → Shared → Prop} {s : Shared} {env : Env} {pos p : Pos} {T : String} {e : Expr} {Q : Value → Shared → Prop}
    (h : wpAny M A (eval e env) (fun v s1 => PySem.W.StarOf M A E v (fun vs s2 => wpAny M A (call (.type T) vs) Q E s2) s1) E s) (he : starEach [.Starred e p] env = [(true, eval e env)] := by rfl) :
    wpAny M A (callWith pos (.type T) [] (backTo pos (starEach [.Starred e p] env)) []) Q E s := by
  rw [he]
  unfold callWith
  refine wpAny_bind (wpAny_holding (PySem.W.ks_lone (wpAny_mono h (fun v s1 h1 => ?_) fun _ _ x => x)))
  exact wpAny_mono h1 (fun b s2 h2 => ⟨h2.1, wpAny_mono h2.2 (fun vs s3 h3 => wpAny_bind (wpAny_standAt (wpAny_bind (wpAny_pure (wpAny_bind (wpAny_mono (wpAny_operating h3) (fun r s4 hr => wpAny_bind (wpAny_holding (wpAny_point (wpAny_pure hr)))) fun _ _ x => x)))))) fun _ _ x => x⟩) fun _ _ x => x
def ItZ1 (K : PySem.W.Frag) (a : Addr) : It where
  go i H := ∃ xs x, SqL K H a xs ∧ xs[i]? = some x
  yld i H v H' := ∃ T x, v = .ref T ∧ H T = none ∧ H' = upd H T (.tup [x]) ∧ ∀ xs, SqL K H a xs → xs[i]? = some x
  stop i H := ∃ xs, SqL K H a xs ∧ i = xs.length
def ItZ2 (K : PySem.W.Frag) (a b : Addr) : It where
  go i H := ∃ xs ys x y, SqL K H a xs ∧ SqL K H b ys ∧ xs[i]? = some x ∧ ys[i]? = some y
  yld i H v H' := ∃ T x y, v = .ref T ∧ H T = none ∧ H' = upd H T (.tup [x, y]) ∧ (∀ xs, SqL K H a xs → xs[i]? = some x) ∧ ∀ ys, SqL K H b ys → ys[i]? = some y
  stop i H := ∃ xs ys, SqL K H a xs ∧ SqL K H b ys ∧ i = xs.length ∧ i ≤ ys.length
abbrev ZS1 (a z TI TO i1 : Addr) (i : Nat) (h : Heap) : Prop := (∃ v f, ZipSt h z TI TO v f ∧ Out v) ∧ IsTupOf1 h TI (.ref i1) ∧ (∃ b1, IsTupOf1 h TO b1) ∧ h.IsListIter i1 a i
abbrev ZS2 (a b z TI TO i1 i2 : Addr) (i : Nat) (h : Heap) : Prop := (∃ v f, ZipSt h z TI TO v f ∧ Out v) ∧ IsTupOf2 h TI (.ref i1) (.ref i2) ∧ (∃ b1 b2, IsTupOf2 h TO b1 b2) ∧ h.IsListIter i1 a i ∧ h.IsListIter i2 b i
structure Ap4 (z TI TO i1 : Addr) : Prop where
  h1 : TI ≠ z
  h2 : TO ≠ z
  h3 : TI ≠ TO
  h4 : TI ≠ i1
  h6 : z ≠ i1
  h8 : TO ≠ i1
theorem lst_ne {h : Heap} {a c : Addr} {its : Array Value} {o : Obj} {T : String} (hl : h.IsList a its) (e : h.get? c = some o) (hc : o.cls = .type T) (hT : T ≠ "list") : a ≠ c := fun q => by
  subst q
  obtain ⟨o2, e2, c2, _⟩ := hl
  rw [e] at e2
  cases e2
  rw [hc] at c2
  exact hT (Value.type.inj c2)
theorem sep1_of {h : Heap} {z TI TO i1 a : Addr} {its : Array Value} {i : Nat} (A : Ap4 z TI TO i1) (t : ZS1 a z TI TO i1 i h) (hl : h.IsList a its) : Sep1 z TI TO i1 [i1, a] := by
  obtain ⟨⟨v, f, hz, _⟩, _, ⟨_, h3⟩, ⟨oi, h4, h5, _⟩⟩ := t
  exact ⟨A.h1, A.h2, A.h3, A.h4, by simp, nm2 A.h6 (lst_ne hl hz rfl (by decide)).symm, nm2 A.h8 (lst_ne hl h3 rfl (by decide)).symm⟩
theorem items_eq {X : Cx} {pins : List (Addr × Obj)} {σ : L2.St} {H : Hp} {s : Shared} {a : Addr} {xs ys : List V} (I : L2.Inv X pins σ H s) (h : SqL X.K H a xs) (h' : SqL X.K H a ys) : xs = ys := by
  obtain ⟨its, r, hl, _⟩ := I.list h
  obtain ⟨its2, r2, hl2, _⟩ := I.list h'
  obtain ⟨o, e, _, n, ed⟩ := hl.isList
  obtain ⟨o2, e2, _, n2, ed2⟩ := hl2.isList
  rw [e] at e2
  cases e2
  rw [ed] at ed2
  have e5 : its = its2 := Array.mk.inj (Data.seq.inj ed2).1
  subst e5
  exact r.inj r2
theorem turn_zip1 {P : Program} {w : World} {K : PySem.W.Frag} {x : Str} {tpos : Pos} (a z TI TO i1 : Addr) (A4 : Ap4 z TI TO i1) : Turn P w K (.Name x tpos) (ItZ1 K a) [z, TI, TO, i1] z (ZS1 a z TI TO i1) where
  mem := by simp
  obj := fun i h ⟨⟨_, _, h1, _⟩, h2, ⟨_, h3⟩, ⟨_, h4, _, h5⟩⟩ b hb => by
    simp only [List.mem_cons, List.not_mem_nil, or_false] at hb
    rcases hb with rfl | rfl | rfl | rfl
    · exact ⟨_, h1, fun v z => by cases z⟩
    · exact ⟨_, h2, fun v z => by cases z⟩
    · exact ⟨_, h3, fun v z => by cases z⟩
    · exact ⟨_, h4, fun v z => by rw [h5] at z; cases z⟩
  keep := fun i h h' ⟨⟨_, _, h1, ho⟩, h2, ⟨_, h3⟩, ⟨_, h4, h5⟩⟩ hk => ⟨⟨_, _, hk _ (by simp) _ h1, ho⟩, hk _ (by simp) _ h2, ⟨_, hk _ (by simp) _ h3⟩, ⟨_, hk _ (by simp) _ h4, h5⟩⟩
  item := fun X hP hw hK hc i pins s σ H E I hf ht hg => by
    subst hP hw hK
    obtain ⟨xs, y, hy, hyi⟩ := hg
    obtain ⟨its, r, hl, _⟩ := I.list hy
    have Z := sep1_of A4 ht hl.isList
    obtain ⟨⟨v0, f0, hz, ho⟩, h2, ⟨b1, h3⟩, h4⟩ := ht
    have nei : a ≠ i1 := by obtain ⟨oi, e4, c4, _⟩ := h4; exact lst_ne hl.isList e4 c4 (by decide)
    have D1 := Draws.list (prog := X.prog) (w := X.w) (A := X.A.in1) (I.ok.hd hc) i1 a nei its.toArray
    have hlen : i < its.toArray.size := by
      rw [List.size_toArray, ← r.length]
      exact (List.getElem?_eq_some_iff.mp hyi).1
    refine zip1_next Z D1 hz ho h2 h3 ⟨h4, hl.isList⟩ hlen fun x1 h' tk d => ⟨_, rfl, wpAny_pure ?_⟩
    have hfree : H s.heap.objs.size = none := I.hok.fresh (Nat.le_refl _)
    have px := d.p1
    rw [List.getElem?_toArray] at px
    have rv := vals_at r hyi px
    have big : ∀ {c o}, s.heap.get? c = some o → c ≠ s.heap.objs.size := fun e => Nat.ne_of_lt (Heap.lt_size e)
    obtain ⟨v1, f1, z1, o1⟩ := d.zs
    refine ⟨.ref s.heap.objs.size, upd H s.heap.objs.size (.tup [y]), ?_, rfl, ⟨_, y, rfl, hfree, rfl, fun ys hys => by rw [items_eq I hys hy]; exact hyi⟩, ⟨⟨v1, f1, z1, o1⟩, d.kp _ _ A4.h1 A4.h3 A4.h4 h2, d.to, d.s1.1⟩, fun b hb => ?_⟩
    · refine I.turnedNew (ch := [z, TO, i1]) (fun b o hb e => ?_) (fun b hb => hf b (by simp only [List.mem_cons, List.not_mem_nil, or_false] at hb ⊢; rcases hb with q | q | q <;> simp [q])) (Nat.le_refl _) ⟨by show 1 ≤ sizeLine; decide, [x1], .cons rv .nil, ⟨_, d.tp, rfl, 0, rfl⟩⟩
      simp only [List.mem_cons, List.not_mem_nil, or_false, not_or] at hb
      exact d.kp _ _ hb.1 hb.2.1 hb.2.2 e
    · rw [upd_ne ?_]
      · exact (hf b hb).1
      · simp only [List.mem_cons, List.not_mem_nil, or_false] at hb
        obtain ⟨_, h4, _⟩ := h4
        rcases hb with rfl | rfl | rfl | rfl
        · exact big hz
        · exact big h2
        · exact big h3
        · exact big h4
  done := fun X hP hw hK hc i pins s σ H E I hf ht hs => by
    subst hP hw hK
    obtain ⟨xs, hy, e⟩ := hs
    obtain ⟨its, r, hl, _⟩ := I.list hy
    have Z := sep1_of A4 ht hl.isList
    obtain ⟨⟨v0, f0, hz, ho⟩, h2, ⟨b1, h3⟩, h4⟩ := ht
    have nei : a ≠ i1 := by obtain ⟨oi, e4, c4, _⟩ := h4; exact lst_ne hl.isList e4 c4 (by decide)
    have D1 := Draws.list (prog := X.prog) (w := X.w) (A := X.A.in1) (I.ok.hd hc) i1 a nei its.toArray
    have hi : i = its.toArray.size := by rw [List.size_toArray, ← r.length]; exact e
    subst hi
    refine zip_next_end (its := #[.ref i1]) (oI := { cls := .type "tuple", data := .seq #[.ref i1] }) rfl D1 Z.zi1 Z.zf1 hz ho h2 rfl ⟨h4, hl.isList⟩ fun h' hk => ⟨rfl, ?_⟩
    refine I.turnedL (t' := s.toks) (ch := [z, i1]) (fun b o hb e => ?_) fun b hb => hf b (by simp only [List.mem_cons, List.not_mem_nil, or_false] at hb ⊢; rcases hb with q | q <;> simp [q])
    simp only [List.mem_cons, List.not_mem_nil, or_false, not_or] at hb
    exact hk _ _ hb.1 hb.2 e
  self := fun A i s Q E ht q => by
    obtain ⟨⟨v0, f0, hz, _⟩, _⟩ := ht
    exact iter_zipSt hz q
theorem sep2_of {h : Heap} {z TI TO i1 i2 a b : Addr} {its its2 : Array Value} {i : Nat} (A : Apart5 z TI TO i1 i2) (t : ZS2 a b z TI TO i1 i2 i h) (hl : h.IsList a its) (hl2 : h.IsList b its2) : ZipSep2 z TI TO i1 i2 [i1, a] [i2, b] := by
  obtain ⟨⟨v, f, hz, _⟩, _, ⟨_, _, h3⟩, ⟨oi, h4, h5, _⟩, ⟨oj, h6, h7, _⟩⟩ := t
  exact ⟨A.h1, A.h2, A.h3, A.h4, by simp, nm2 A.h6 (lst_ne hl hz rfl (by decide)).symm, nm2 A.h8 (lst_ne hl h3 rfl (by decide)).symm, A.h5, by simp, nm2 A.h7 (lst_ne hl2 hz rfl (by decide)).symm, nm2 A.h9 (lst_ne hl2 h3 rfl (by decide)).symm, nm2 A.h10 (lst_ne hl2 h4 h5 (by decide)).symm, nm2 A.h10.symm (lst_ne hl h6 h7 (by decide)).symm⟩
theorem turn_zip2 {P : Program} {w : World} {K : PySem.W.Frag} {x : Str} {tpos : Pos} (a b z TI TO i1 i2 : Addr) (A5 : Apart5 z TI TO i1 i2) : Turn P w K (.Name x tpos) (ItZ2 K a b) [z, TI, TO, i1, i2] z (ZS2 a b z TI TO i1 i2) where
  mem := by simp
  obj := fun i h ⟨⟨_, _, h1, _⟩, h2, ⟨_, _, h3⟩, ⟨_, h4, _, h5⟩, ⟨_, h6, _, h7⟩⟩ b hb => by
    simp only [List.mem_cons, List.not_mem_nil, or_false] at hb
    rcases hb with rfl | rfl | rfl | rfl | rfl
    · exact ⟨_, h1, fun v z => by cases z⟩
    · exact ⟨_, h2, fun v z => by cases z⟩
    · exact ⟨_, h3, fun v z => by cases z⟩
    · exact ⟨_, h4, fun v z => by rw [h5] at z; cases z⟩
    · exact ⟨_, h6, fun v z => by rw [h7] at z; cases z⟩
  keep := fun i h h' ⟨⟨_, _, h1, ho⟩, h2, ⟨_, _, h3⟩, ⟨_, h4, h5⟩, ⟨_, h6, h7⟩⟩ hk => ⟨⟨_, _, hk _ (by simp) _ h1, ho⟩, hk _ (by simp) _ h2, ⟨_, _, hk _ (by simp) _ h3⟩, ⟨_, hk _ (by simp) _ h4, h5⟩, ⟨_, hk _ (by simp) _ h6, h7⟩⟩
  item := fun X hP hw hK hc i pins s σ H E I hf ht hg => by
    subst hP hw hK
    obtain ⟨xs, ys, u, y, hx, hy, hxi, hyi⟩ := hg
    obtain ⟨its, r, hl, _⟩ := I.list hx
    obtain ⟨its2, r2, hl2, _⟩ := I.list hy
    have Z := sep2_of A5 ht hl.isList hl2.isList
    obtain ⟨⟨v0, f0, hz, ho⟩, h2, ⟨b1, b2, h3⟩, h4, h6⟩ := ht
    have nei : a ≠ i1 := by obtain ⟨oi, e4, c4, _⟩ := h4; exact lst_ne hl.isList e4 c4 (by decide)
    have nej : b ≠ i2 := by obtain ⟨oi, e4, c4, _⟩ := h6; exact lst_ne hl2.isList e4 c4 (by decide)
    have D1 := Draws.list (prog := X.prog) (w := X.w) (A := X.A.in1) (I.ok.hd hc) i1 a nei its.toArray
    have D2 := Draws.list (prog := X.prog) (w := X.w) (A := X.A.in1) (I.ok.hd hc) i2 b nej its2.toArray
    have l1 : i < its.toArray.size := by
      rw [List.size_toArray, ← r.length]
      exact (List.getElem?_eq_some_iff.mp hxi).1
    have l2 : i < its2.toArray.size := by
      rw [List.size_toArray, ← r2.length]
      exact (List.getElem?_eq_some_iff.mp hyi).1
    refine zip2_next Z D1 D2 hz ho h2 h3 ⟨h4, hl.isList⟩ ⟨h6, hl2.isList⟩ l1 l2 fun x1 x2 h' tk d => ⟨_, rfl, wpAny_pure ?_⟩
    have hfree : H s.heap.objs.size = none := I.hok.fresh (Nat.le_refl _)
    have px := d.p1
    rw [List.getElem?_toArray] at px
    have py := d.p2
    rw [List.getElem?_toArray] at py
    have rv := vals_at r hxi px
    have rw2 := vals_at r2 hyi py
    have big : ∀ {c o}, s.heap.get? c = some o → c ≠ s.heap.objs.size := fun e => Nat.ne_of_lt (Heap.lt_size e)
    obtain ⟨v1, f1, z1, o1⟩ := d.zs
    refine ⟨.ref s.heap.objs.size, upd H s.heap.objs.size (.tup [u, y]), ?_, rfl, ⟨_, u, y, rfl, hfree, rfl, (fun ys hys => by rw [items_eq I hys hx]; exact hxi), fun ys hys => by rw [items_eq I hys hy]; exact hyi⟩, ⟨⟨v1, f1, z1, o1⟩, d.kp _ _ A5.h1 A5.h3 A5.h4 A5.h5 h2, d.to, d.s1.1, d.s2.1⟩, fun b hb => ?_⟩
    · refine I.turnedNew (ch := [z, TO, i1, i2]) (fun b o hb e => ?_) (fun b hb => hf b (by simp only [List.mem_cons, List.not_mem_nil, or_false] at hb ⊢; rcases hb with q | q | q | q <;> simp [q])) (Nat.le_refl _) ⟨by show 2 ≤ sizeLine; decide, [x1, x2], .cons rv (.cons rw2 .nil), ⟨_, d.tp, rfl, 0, rfl⟩⟩
      simp only [List.mem_cons, List.not_mem_nil, or_false, not_or] at hb
      exact d.kp _ _ hb.1 hb.2.1 hb.2.2.1 hb.2.2.2 e
    · rw [upd_ne ?_]
      · exact (hf b hb).1
      · simp only [List.mem_cons, List.not_mem_nil, or_false] at hb
        obtain ⟨_, h4, _⟩ := h4
        obtain ⟨_, h6, _⟩ := h6
        rcases hb with rfl | rfl | rfl | rfl | rfl
        · exact big hz
        · exact big h2
        · exact big h3
        · exact big h4
        · exact big h6
  done := fun X hP hw hK hc i pins s σ H E I hf ht hs => by
    subst hP hw hK
    obtain ⟨xs, ys, hx, hy, e, e2⟩ := hs
    obtain ⟨its, r, hl, _⟩ := I.list hx
    obtain ⟨its2, r2, hl2, _⟩ := I.list hy
    have Z := sep2_of A5 ht hl.isList hl2.isList
    obtain ⟨⟨v0, f0, hz, ho⟩, h2, ⟨b1, b2, h3⟩, h4, h6⟩ := ht
    have nei : a ≠ i1 := by obtain ⟨oi, e4, c4, _⟩ := h4; exact lst_ne hl.isList e4 c4 (by decide)
    have D1 := Draws.list (prog := X.prog) (w := X.w) (A := X.A.in1) (I.ok.hd hc) i1 a nei its.toArray
    have hi : i = its.toArray.size := by rw [List.size_toArray, ← r.length]; exact e
    subst hi
    refine zip_next_end (its := #[.ref i1, .ref i2]) (oI := { cls := .type "tuple", data := .seq #[.ref i1, .ref i2] }) rfl D1 Z.zi1 Z.zf1 hz ho h2 rfl ⟨h4, hl.isList⟩ fun h' hk => ⟨rfl, ?_⟩
    refine I.turnedL (t' := s.toks) (ch := [z, i1]) (fun b o hb e => ?_) fun b hb => hf b (by simp only [List.mem_cons, List.not_mem_nil, or_false] at hb ⊢; rcases hb with q | q <;> simp [q])
    simp only [List.mem_cons, List.not_mem_nil, or_false, not_or] at hb
    exact hk _ _ hb.1 hb.2 e
  self := fun A i s Q E ht q => by
    obtain ⟨⟨v0, f0, hz, _⟩, _⟩ := ht
    exact iter_zipSt hz q
def iZipStar (K : PySem.W.Frag) (te : TE) : TI := fun σ H R => te σ H fun x H1 => ∃ p, x = .ref p ∧ ((∃ a xs, SqL K H1 p [.ref a] ∧ SqL K H1 a xs ∧ R (ItZ1 K a) H1) ∨ ∃ a b xs ys, SqL K H1 p [.ref a, .ref b] ∧ SqL K H1 a xs ∧ SqL K H1 b ys ∧ R (ItZ2 K a b) H1)
theorem apN (N : Nat) : Ap4 (N + 3) (N + 1) (N + 2) N ∧ Apart5 (N + 4) (N + 2) (N + 3) N (N + 1) := by
  have f : ∀ {i j : Nat}, i ≠ j → N + i ≠ N + j := fun h q => h (Nat.add_left_cancel q)
  exact ⟨⟨f (by decide), f (by decide), f (by decide), f (j := 0) (by decide), f (j := 0) (by decide), f (j := 0) (by decide)⟩, ⟨f (by decide), f (by decide), f (by decide), f (j := 0) (by decide), f (by decide), f (j := 0) (by decide), f (by decide), f (j := 0) (by decide), f (by decide), f (i := 0) (by decide)⟩⟩
theorem pi_zipStar {X : Cx} {e : Expr} {te : TE} {x : Str} {p p2 pos tpos : Pos} (hg : Gl X "zip") (hm : X.mg "zip" = none) (he : PE X e te) (hs : starEach [.Starred e p2] X.env = [(true, eval e X.env)] := by rfl) :
    PI X (.Name x tpos) (.Call (.Name "zip" p) [.Starred e p2] [] pos) (iZipStar X.K te) := by
  refine ⟨fun pins s σ H R I h => ?_⟩
  refine wpAny_Call_NameR (ld_blt (u := .type "zip") I hg hm (by rfl) (callWith_starT ?_ hs))
  refine thn (he.run pins s σ H _ I h) fun v s1 ⟨y, H1, I1, ry, q, ey, hq⟩ => ?_
  subst ey
  obtain rfl : v = Value.ref q := ry
  rcases hq with ⟨a, xs, hp, ha, hR⟩ | ⟨a, b, xs, ys, hp, ha, hb, hR⟩
  · refine StX.star_lst I1 hp fun us s2 I2 rv => ?_
    have e1 : us = [Value.ref a] := by
      cases rv with
      | cons r rr => cases rr; cases r; rfl
    subst e1
    obtain ⟨its, r, hl, _⟩ := I2.list ha
    refine zip_begins1 (begins_list a its.toArray) hl.isList fun h' h1 h2 h3 h4 hsz hk => iter_zipSt h1 ?_
    have Hf : ∀ b, s2.heap.objs.size ≤ b → H1 b = none := fun b hb => I2.hok.fresh hb
    refine ⟨_, _, _, _, H1, rfl, I2.kept (t' := s2.toks) hk, turn_zip1 a _ _ _ _ (apN s2.heap.objs.size).1, ⟨⟨_, _, h1, .inl rfl⟩, h2, ⟨_, h3⟩, ⟨_, h4, rfl, rfl⟩⟩, fun b hb => ?_, hR⟩
    simp only [List.mem_cons, List.not_mem_nil, or_false] at hb
    rcases hb with rfl | rfl | rfl | rfl <;> exact I2.fpOk (by first | exact Nat.le_add_right _ _ | exact Nat.le_refl _) (Hf _ (by first | exact Nat.le_add_right _ _ | exact Nat.le_refl _))
  · refine StX.star_lst I1 hp fun us s2 I2 rv => ?_
    have e1 : us = [Value.ref a, Value.ref b] := by
      cases rv with
      | cons r rr =>
        cases rr with
        | cons r2 rr => cases rr; cases r; cases r2; rfl
    subst e1
    obtain ⟨its, r, hl, _⟩ := I2.list ha
    obtain ⟨its2, r2, hl2, _⟩ := I2.list hb
    refine zip_begins2 (begins_list a its.toArray) (begins_list b its2.toArray) hl.isList hl2.isList fun h' h1 h2 h3 h4 h5 hsz hk => iter_zipSt (f := false) h1 ?_
    have Hf : ∀ b, s2.heap.objs.size ≤ b → H1 b = none := fun b hb => I2.hok.fresh hb
    refine ⟨_, _, _, _, H1, rfl, I2.kept (t' := s2.toks) hk, turn_zip2 a b _ _ _ _ _ (apN s2.heap.objs.size).2, ⟨⟨_, _, h1, .inl rfl⟩, h2, ⟨_, _, h3⟩, ⟨_, h4, rfl, rfl⟩, ⟨_, h5, rfl, rfl⟩⟩, fun b hb => ?_, hR⟩
    simp only [List.mem_cons, List.not_mem_nil, or_false] at hb
    rcases hb with rfl | rfl | rfl | rfl | rfl <;> exact I2.fpOk (by first | exact Nat.le_add_right _ _ | exact Nat.le_refl _) (Hf _ (by first | exact Nat.le_add_right _ _ | exact Nat.le_refl _))
end
/-! ### max of a tuple; readings -/
theorem max_intTuple {prog : Program} {w : World} {A : Around} {s : Shared} {E : Value → Shared → Prop} {l : Addr} {xs : Array (Int × Tok)} {Q : Value → Shared → Prop} (hh : A.handled = none) (hl : s.heap.IsTuple l (intItems xs)) (hne : 0 < xs.size)
    (h : ∀ v h' tk, (intItems xs)[argBest (fun i j => decide (numAt xs i > numAt xs j)) (xs.size - 1)]? = some v → (∀ b o, s.heap.get? b = some o → h'.get? b = some o) → Q v { s with heap := h', toks := tk }) :
    wpAny (model prog w) A (call (.builtin "max") [.ref l]) Q E s := by
  refine call_max_walk (wpAny_pyIter_tuple hl ?_)
  have hls : l < s.heap.objs.size := by
    obtain ⟨o, ho, _⟩ := hl
    exact Heap.lt_size ho
  refine ⟨_, [_, l], [_], _, _, _, _, rfl, Walks.tuple (A := A.in1) hh _ l (Nat.ne_of_lt hls) (intItems xs),
    ⟨⟨_, Heap.get?_push_size _ rfl, rfl, rfl⟩, hl.push _⟩, fun c hc => ?_, by simpa [intItems] using hne, CmpOf.ints_gt (numAt xs) (fun _ _ => intItems_at), fun v h' tk hP hk => ?_⟩
  · show c < (s.heap.push _).objs.size
    rw [Heap.size_push]
    rcases List.mem_cons.mp hc with rfl | hc
    · exact Nat.lt_succ_self _
    · rw [List.mem_singleton.mp hc]; exact Nat.lt_succ_of_lt hls
  · exact h v h' tk (by simpa [intItems] using hP) fun b o e => hk b o (fun z => absurd (List.mem_singleton.mp z) (Nat.ne_of_lt (Heap.lt_size e))) (Heap.get?_push_of_some _ e)
def rMaxT (K : PySem.W.Frag) : List V → Hp → VK → Prop := fun vs H Q => ∃ (a : Addr) (ns : List Int), vs = [V.ref a] ∧ SqT K H a (ns.map V.int) ∧ 0 < ns.length ∧ ∀ m, m ∈ ns → (∀ y, y ∈ ns → y ≤ m) → Q (.int m) H
theorem cr_maxT {X : Cx} (hc : X.calm = true) : CallR X (.builtin "max") (rMaxT X.K) := by
  intro pins s σ H vs us Q I r h
  obtain ⟨a, ns, rfl, hs, hne, q⟩ := h
  obtain ⟨its, rv, hl, _⟩ := I.tuple hs
  rw [Vals.ref1 r]
  have hi := rv.ints
  obtain ⟨xs, e⟩ := hi.allInts.items
  have hn : numsOf (intItems xs).toList = ns := by rw [← e]; exact hi.numsOf
  rw [nums_intItems] at hn
  subst hn
  have hl' : s.heap.IsTuple a its.toArray := hl
  rw [e] at hl'
  have hsz : 0 < xs.size := by simpa using hne
  refine max_intTuple (I.ok.hd hc) hl' hsz fun v h' tk hv hk => ?_
  obtain ⟨t, rfl⟩ := intItems_at hv
  obtain ⟨h1, h2⟩ := argBest_gt (numAt xs) (xs.size - 1)
  refine ⟨.int _, H, I.kept hk, ⟨_, rfl⟩, q _ ?_ fun a ha => ?_⟩
  · rw [numAt_eq]; exact PySem.getD_mem (by rw [List.length_map, Array.length_toList]; omega)
  · obtain ⟨j, hj, rfl⟩ := mem_getD ha
    rw [List.length_map, Array.length_toList] at hj
    rw [← numAt_eq]; exact h2 j (by omega)
section
variable {K : PySem.W.Frag} {H : Hp} {Q : VK} {σ : L2.St}
theorem r_maxT {a : Addr} {ns : List Int} (hs : SqT K H a (ns.map V.int)) (h0 : 0 < ns.length) (q : ∀ m, m ∈ ns → (∀ y, y ∈ ns → y ≤ m) → Q (.int m) H) : rMaxT K [.ref a] H Q := ⟨a, ns, rfl, hs, h0, q⟩
theorem r_lstZip {ta : TA} (h : ta σ H fun vs H1 => ∃ a b xs ys, vs = [.ref a, .ref b] ∧ SqT K H1 a xs ∧ SqT K H1 b ys ∧ xs.length = ys.length ∧
  ∀ (L : Addr) (ts : List Addr) (H2 : Hp), Same H1 H2 → H1 L = none → H2 L = some (.lst (ts.map V.ref)) → ts.length = xs.length → (∀ (j : Nat) (t : Addr) (x y : V), ts[j]? = some t → xs[j]? = some x → ys[j]? = some y → H2 t = some (.tup [x, y])) → Q (.ref L) H2) : tLstZip K ta σ H Q := h
theorem r_iZipStar {te : TE} {R : It → Hp → Prop} (h : te σ H fun x H1 => ∃ p, x = .ref p ∧ ((∃ a xs, SqL K H1 p [.ref a] ∧ SqL K H1 a xs ∧ R (ItZ1 K a) H1) ∨ ∃ a b xs ys, SqL K H1 p [.ref a, .ref b] ∧ SqL K H1 a xs ∧ SqL K H1 b ys ∧ R (ItZ2 K a b) H1)) : iZipStar K te σ H R := h
theorem r_iZipX {ta : TA} {R : It → Hp → Prop} (h : ta σ H fun vs H1 => ∃ x a ys, vs = [.str x, .ref a] ∧ SqL K H1 a ys ∧ R (ItZX K x a) H1) : iZipX K ta σ H R := h
theorem r_lockE {t : TE} (h : ∃ d u, H d = some u ∧ Mut (some u) ∧ ∀ od, t σ (upd H d (.frz od u)) fun v H' => H' d = some (.frz od u) ∧ Q v (upd H' d u)) : tLockE t σ H Q := h
theorem r_items {td : TE} {R : It → Hp → Prop} (h : td σ H fun x H1 => ∃ d o kvs, x = .ref d ∧ H1 d = some (.frz o (.dK kvs)) ∧ R (Iti d o kvs) H1) : iItems td σ H R := h
theorem r_vals {td : TE} {R : It → Hp → Prop} (h : td σ H fun x H1 => ∃ d o kvs, x = .ref d ∧ H1 d = some (.frz o (.dK kvs)) ∧ R (Itd d o kvs) H1) : iVals td σ H R := h
end
end Tf

set_option Elab.async false
set_option linter.all false
set_option maxRecDepth 100000
set_option maxHeartbeats 2000000
/-! zip(tuple, list), the target a tuple -/
namespace Tf
open PySem PySem.Spec PyProof.Rows L2
def ItZTL (K : PySem.W.Frag) (a b : Addr) : It where
  go i H := ∃ (xs ys : List V) (x y : V), SqT K H a xs ∧ SqL K H b ys ∧ xs[i]? = some x ∧ ys[i]? = some y
  yld i H v H' := ∃ T x y, v = .ref T ∧ H T = none ∧ H' = upd H T (.tup [x, y]) ∧ (∀ xs, SqT K H a xs → xs[i]? = some x) ∧ ∀ ys, SqL K H b ys → ys[i]? = some y
  stop i H := ∃ xs ys : List V, SqT K H a xs ∧ SqL K H b ys ∧ i = min xs.length ys.length
abbrev ZipTL (a b z TI TO i1 i2 : Addr) (i : Nat) (h : Heap) : Prop := IsZip h z TI TO .none ∧ IsTupOf2 h TI (.ref i1) (.ref i2) ∧ (∃ a1 a2, IsTupOf2 h TO a1 a2) ∧ h.IsTupleIter i1 a i ∧ h.IsListIter i2 b i
theorem turn_zipTL {P : Program} {w : World} {K : PySem.W.Frag} {elts : List Expr} {kk : Nat} {tpos : Pos} (a b z TI TO i1 i2 : Addr) (Z : ZipSep2 z TI TO i1 i2 [i1, a] [i2, b]) (na : a ≠ i1) (nb : b ≠ i2) :
    Turn P w K (.Tuple elts kk tpos) (ItZTL K a b) [z, TI, TO, i1, i2] z (ZipTL a b z TI TO i1 i2) where
  mem := by simp
  obj := fun i h ⟨h1, h2, ⟨_, _, h3⟩, ⟨_, h4, _, h5⟩, ⟨_, h6, _, h7⟩⟩ b hb => by
    simp only [List.mem_cons, List.not_mem_nil, or_false] at hb
    rcases hb with rfl | rfl | rfl | rfl | rfl
    · exact ⟨_, h1, fun v z => by cases z⟩
    · exact ⟨_, h2, fun v z => by cases z⟩
    · exact ⟨_, h3, fun v z => by cases z⟩
    · exact ⟨_, h4, fun v z => by rw [h5] at z; cases z⟩
    · exact ⟨_, h6, fun v z => by rw [h7] at z; cases z⟩
  keep := fun i h h' ⟨h1, h2, ⟨_, _, h3⟩, ⟨_, h4, h5⟩, ⟨_, h6, h7⟩⟩ hk => ⟨hk _ (by simp) _ h1, hk _ (by simp) _ h2, ⟨_, _, hk _ (by simp) _ h3⟩, ⟨_, hk _ (by simp) _ h4, h5⟩, ⟨_, hk _ (by simp) _ h6, h7⟩⟩
  item := fun X hP hw hK hc i pins s σ H E I hf ht hg => by
    subst hP hw hK
    obtain ⟨h1, h2, h3, h4, h5⟩ := ht
    obtain ⟨xs, ys, x, y, hx, hy, hxi, hyi⟩ := hg
    obtain ⟨its, r, hl, _⟩ := I.tuple hx
    obtain ⟨its2, r2, hl2, _⟩ := I.list hy
    have G := GoesN.zip2 (prog := X.prog) (w := X.w) (A := X.A) (elts := elts) (x1 := kk) (pos := tpos) Z (Draws.tuple (A := X.A.in1) (I.ok.hd hc) i1 a na its.toArray) (Draws.list (A := X.A.in1) (I.ok.hd hc) i2 b nb its2.toArray)
    have hl1' : i < its.toArray.size := by
      rw [List.size_toArray, ← r.length]
      exact (List.getElem?_eq_some_iff.mp hxi).1
    have hl2' : i < its2.toArray.size := by
      rw [List.size_toArray, ← r2.length]
      exact (List.getElem?_eq_some_iff.mp hyi).1
    refine G.goes i s _ E (by omega) ⟨h1, h2, h3, ⟨h4, hl⟩, ⟨h5, hl2.isList⟩⟩ fun v h' tk hY hS hk htk => ?_
    obtain ⟨T, u, v2, rfl, hT, hu, hv2, hI⟩ := hY
    have hfree : H T = none := I.hok.fresh hT
    obtain ⟨u3, e3, r3⟩ := r.get hxi
    obtain ⟨v3, e4, r4⟩ := r2.get hyi
    have e5 : its.toArray[i]? = some u3 := by rw [List.getElem?_toArray]; exact e3
    have e6 : its2.toArray[i]? = some v3 := by rw [List.getElem?_toArray]; exact e4
    obtain rfl : u = u3 := Option.some.inj (hu.symm.trans e5)
    obtain rfl : v2 = v3 := Option.some.inj (hv2.symm.trans e6)
    refine ⟨.ref T, upd H T (.tup [x, y]), ?_, rfl, ⟨T, x, y, rfl, hfree, rfl, fun l hl => ?_, fun l hl => ?_⟩, ⟨hS.1, hS.2.1, hS.2.2.1, hS.2.2.2.1.1, hS.2.2.2.2.1⟩, fun b hb => ?_⟩
    · refine I.turnedNew (ch := [z, TO, i1, i2]) hk (fun b hb => hf b (by simp only [List.mem_cons, List.not_mem_nil, or_false] at hb ⊢; rcases hb with q | q | q | q <;> simp [q])) hT ?_
      exact ⟨by simp [sizeLine], _, .cons r3 (.cons r4 .nil), hI⟩
    · rw [I.tuple_inj hl hx]; exact hxi
    · obtain ⟨itsB, rB, hlB, _⟩ := I.list hl
      obtain ⟨o, e, _, n, ed⟩ := hl2.isList
      obtain ⟨o2, e2, _, n2, ed2⟩ := hlB.isList
      rw [e] at e2
      cases e2
      rw [ed] at ed2
      have e7 : its2 = itsB := Array.mk.inj (Data.seq.inj ed2).1
      subst e7
      rw [rB.inj r2]
      exact hyi
    · have hb2 : b < s.heap.objs.size := by
        obtain ⟨_, _, h3⟩ := h3
        obtain ⟨_, h4, _⟩ := h4
        obtain ⟨_, h5, _⟩ := h5
        simp only [List.mem_cons, List.not_mem_nil, or_false] at hb
        rcases hb with rfl | rfl | rfl | rfl | rfl
        · exact Heap.lt_size h1
        · exact Heap.lt_size h2
        · exact Heap.lt_size h3
        · exact Heap.lt_size h4
        · exact Heap.lt_size h5
      rw [upd_ne (Nat.ne_of_lt (Nat.lt_of_lt_of_le hb2 hT))]
      exact (hf b hb).1
  done := fun X hP hw hK hc i pins s σ H E I hf ht hs => by
    subst hP hw hK
    obtain ⟨h1, h2, h3, h4, h5⟩ := ht
    obtain ⟨xs, ys, hx, hy, e⟩ := hs
    obtain ⟨its, r, hl, _⟩ := I.tuple hx
    obtain ⟨its2, r2, hl2, _⟩ := I.list hy
    have G := GoesN.zip2 (prog := X.prog) (w := X.w) (A := X.A) (elts := elts) (x1 := kk) (pos := tpos) Z (Draws.tuple (A := X.A.in1) (I.ok.hd hc) i1 a na its.toArray) (Draws.list (A := X.A.in1) (I.ok.hd hc) i2 b nb its2.toArray)
    have e1 : its.toArray.size = xs.length := by rw [List.size_toArray, r.length]
    have e2 : its2.toArray.size = ys.length := by rw [List.size_toArray, r2.length]
    have e3 : i = min its.toArray.size its2.toArray.size := by rw [e1, e2]; exact e
    subst e3
    exact G.stops s _ E ⟨h1, h2, h3, ⟨h4, hl⟩, ⟨h5, hl2.isList⟩⟩ fun h' tk hk htk => I.turnedL hk (fun b hb => hf b (by simp only [List.mem_cons, List.not_mem_nil, or_false] at hb ⊢; rcases hb with q | q | q | q <;> simp [q]))
  self := fun A i s Q E ht q => wpAny_pyIter_zip ht.1 q
def iZipTL (K : PySem.W.Frag) (ta : TA) : TI := fun σ H R => ta σ H fun vs H1 => ∃ a b xs ys, vs = [.ref a, .ref b] ∧ SqT K H1 a xs ∧ SqL K H1 b ys ∧ R (ItZTL K a b) H1
theorem pi_zipTL {X : Cx} {e e2 : Expr} {ta : TA} {p pos tpos : Pos} {elts : List Expr} {kk : Nat} (hg : Gl X "zip") (hm : X.mg "zip" = none) (ha : PA X [e, e2] ta)
    (hpl : ((backTo pos (starEach [e, e2] X.env)).any (·.1)) = false := by rfl)
    (hst : starEach [e, e2] X.env = (false, eval e X.env) :: starEach [e2] X.env := by rfl) :
    PI X (.Tuple elts kk tpos) (.Call (.Name "zip" p) [e, e2] [] pos) (iZipTL X.K ta) := by
  refine ⟨fun pins s σ H R I h => ?_⟩
  refine wpAny_Call_NameR (ld_blt (u := .type "zip") I hg hm (by rfl) ?_)
  refine PyProof.Rows.callWith_type hpl (L2.FK.evalArgs_any hpl ?_)
  refine thn (ha.run pos pins s σ H _ I h) fun us s2 ⟨vs, H2, I2, r1, a, b, xs, ys, ev, hx, hy, q⟩ => ?_
  subst ev
  obtain ⟨u, u2, rfl, rfl, rfl⟩ := r1.two
  obtain ⟨its, r, hl, _⟩ := I2.tuple hx
  obtain ⟨its2, r2, hl2, _⟩ := I2.list hy
  have la : a < s2.heap.objs.size := by obtain ⟨o, ho, _⟩ := id hl; exact Heap.lt_size ho
  have lb : b < s2.heap.objs.size := by obtain ⟨o, ho, _⟩ := hl2.isList; exact Heap.lt_size ho
  refine zip_begins2 (begins_tuple a its.toArray) (begins_list b its2.toArray) hl hl2.isList fun h' h1 h2 h3 h4 h5 hsz hk2 => ?_
  refine wpAny_pyIter_zip h1 ?_
  have Hf : ∀ b, s2.heap.objs.size ≤ b → H2 b = none := fun b hb => I2.hok.fresh hb
  refine ⟨_, _, _, _, H2, rfl, I2.kept (t' := s2.toks) hk2, turn_zipTL a b _ _ _ _ _ (sepN s2.heap.objs.size a b la lb) (Nat.ne_of_lt la) (Nat.ne_of_lt (Nat.lt_succ_of_lt lb)), ⟨h1, h2, ⟨_, _, h3⟩, ⟨_, h4, rfl, rfl⟩, ⟨_, h5, rfl, rfl⟩⟩, fun b hb => ?_, q⟩
  simp only [List.mem_cons, List.not_mem_nil, or_false] at hb
  rcases hb with rfl | rfl | rfl | rfl | rfl <;> exact I2.fpOk (by first | exact Nat.le_add_right _ _ | exact Nat.le_refl _) (Hf _ (by first | exact Nat.le_add_right _ _ | exact Nat.le_refl _))
theorem r_iZipTL {K : PySem.W.Frag} {ta : TA} {σ : L2.St} {H : Hp} {R : It → Hp → Prop} (h : ta σ H fun vs H1 => ∃ a b xs ys, vs = [.ref a, .ref b] ∧ SqT K H1 a xs ∧ SqL K H1 b ys ∧ R (ItZTL K a b) H1) : iZipTL K ta σ H R := h
def tTru (K : PySem.W.Frag) (ta : TE) : TT := fun σ H Q => ta σ H fun x H' => ∃ k, TruV K x H' k ∧ Q k H'
theorem pt_tru {X : Cx} {K : PySem.W.Frag} {a : Expr} {ta : TE} (ha : PE X a ta) (he : ∀ whole, isTrue a X.env whole = (do let v ← whole; standAt a.pos; holding [v] (truthy v))) (hK : X.K = K) : PT X a (tTru K ta) := by
  subst hK
  exact pt_truth ha he
theorem r_bmU {K : PySem.W.Frag} {T : String} {r : V → List V → Hp → VK → Prop} {to : TE} {t : TA} {σ : L2.St} {H : Hp} {Q : VK} (h : to σ H fun x H1 => tyV K T x H1 ∧ t σ H1 fun xs H2 => r x xs H2 Q) : tBM K T r to t σ H Q := h
theorem r_tru {K : PySem.W.Frag} {ta : TE} {σ : L2.St} {H : Hp} {Q : Bool → Hp → Prop} (h : ta σ H fun x H' => ∃ k, TruV K x H' k ∧ Q k H') : tTru K ta σ H Q := h
end Tf

set_option Elab.async false
set_option linter.all false
set_option maxRecDepth 100000
set_option maxHeartbeats 4000000
/-! sorted(xs, key=f), f a def of one's own that gives whole numbers, under FnOk: what the sort holds (the emptied list, the list of keys) is pinned while f runs -/
namespace Tf
open PySem PySem.Spec PyProof.Rows PySem.Calls L2

def rSortOwn (K : PySem.W.Frag) (f : Addr) (sp : Sp) (E : XK) : List V → List V → Hp → VK → Prop := fun vs zs H Q => ∃ (a : Addr) (xs : List V) (ns : List Int), vs = [.ref a] ∧ zs = [.ref f] ∧ SqL K H a xs ∧ ns.length = xs.length ∧
  (∀ (i : Nat) (x : V) (n : Int), xs[i]? = some x → ns[i]? = some n → ∀ (H' : Hp) (Q' : VK), Same H H' → (∀ H'', Same H' H'' → Q' (.int n) H'') → sp [x] H' Q' E) ∧
  (∀ (ys : List (V × Int)) (H' : Hp) (p : Addr), ys.Perm (xs.zip ns) → ys.Pairwise (fun b c => b.2 ≤ c.2) → Same H H' → H' p = none → Q (.ref p) (upd H' p (.lst (ys.map (·.1)))))
section
variable {X : Cx} {f : Addr} {fd : FuncData} {ps : List Str} {sp : Sp} {E : XK} {k : Nat}
theorem run_fn2 {pins : List (Addr × Obj)} {σ : L2.St} {H : Hp} {s : Shared} {Q : VK} {us : List Value} {vs : List V} {E' : Value → Shared → Prop} (F : FnOk X.prog X.w X.K X.mg X.base CX0 k f fd ps sp) (hr : Room k X.A.in1.in1) (hb : Binds X.K fd ps [])
    (I : Inv X pins σ H s) (r : Vals vs us) (h : sp vs H Q E) : wpAny (model X.prog X.w) X.A.in1.in1 (call (.ref f) us) (EP X pins σ Q) E' s := by
  have hl : (us ++ []).length = ps.length := by rw [List.append_nil, ← r.length]; exact F.len _ _ _ _ h
  have hb' := hb s us I.kIn hl
  rw [List.append_nil] at hb'
  refine wpAny_call (codeAny_mono (F.run X.A.in1.in1 X.stack s H ⟨us, []⟩ us vs Q E hr I.env0.in1.in1 hb' r h) fun r s' hq => ?_)
  cases r with
  | error e => exact False.elim hq
  | ok fl =>
    cases fl with
    | ret u => exact I.after hq
    | next => exact False.elim hq
    | brk => exact False.elim hq
    | cont => exact False.elim hq

theorem each_zip : ∀ {xs : List V} {its : List Value} {ns : List Int}, Vals xs its → ns.length = its.length → PySem.W.EachIs (fun (u : Value) (b : V × Int) => RelV b.1 u) its (xs.zip ns)
  | [], [], ns, _, _ => by rw [List.zip_nil_left]; exact .nil
  | v :: xs, u :: its, [], _, h => by cases h
  | v :: xs, u :: its, n :: ns, .cons h1 h2, h => by
    rw [List.zip_cons_cons]
    exact .cons h1 (each_zip h2 (Nat.succ.inj h))
theorem cr_sortOwn (F : FnOk X.prog X.w X.K X.mg X.base CX0 k f fd ps sp) (hr : Room (k + 2) X.A) (hb : Binds X.K fd ps []) : CallRK X (.builtin "sorted") [Str.ofString "key"] (rSortOwn X.K f sp E) := by
  intro pins s σ H vs zs us ws Q I r rz h
  obtain ⟨l, xs, ns, rfl, rfl, hs, hn, turn, q⟩ := h
  obtain rfl := Vals.ref1 r
  obtain rfl := Vals.ref1 rz
  obtain ⟨its, rv, hl, hz⟩ := I.list hs
  have hil := rv.length
  rw [show ([Str.ofString "key"] : List Str).zip [Value.ref f] = [(Str.ofString "key", Value.ref f)] from rfl]
  refine PySem.W.sorted_of_sort hl.isList (by omega) (ksk_s1 _ _) (fun _ => ksk_l1 _ _) fun E' => ?_
  rw [ksk_t1]
  have hr2 : Room k X.A.in1.in1 := hr.in1.in1
  have hA : (X.A.in1.in1).units + 200 < cLine := by have := hr2.un; omega
  have hA0 := PySem.W.copyHeap_at s.heap its
  have hold : ∀ b o, s.heap.get? b = some o → (PySem.W.copyHeap s.heap its).get? b = some o := fun b o e => PySem.W.copyHeap_old e
  generalize hG : PySem.W.copyHeap s.heap its = G at hA0 hold ⊢
  generalize ha : s.heap.objs.size + 1 = a at hA0 ⊢
  have ho : G.get? a = some (seqObj "list" its.toArray 0) := hA0
  obtain ⟨e1, ho1⟩ : ∃ e1, (G.update a (Obj.mapSeq fun _ => (#[] : Array Value))).get? a = some (seqObj "list" #[] e1) := ⟨_, get?_update_seq ho fun _ => #[]⟩
  have haG : a < G.objs.size := Heap.lt_size ho
  have hkS : ((G.update a (Obj.mapSeq fun _ => (#[] : Array Value))).push (seqObj "tuple" its.toArray 0)).objs.size = G.objs.size + 1 := by rw [size_push', Heap.size_update]
  unfold ksk_tree
  refine wpAny_bind (listItems_at ho rfl ?_)
  refine wpAny_bind (listUpdate_at ho rfl ?_ (by rw [List.size_toArray]; omega) (Nat.zero_le _))
  refine wpAny_bind (seqEpoch_at ho1 rfl ?_)
  refine wpAny_bind (wpAny_newTuple ?_ (by show its.length ≤ _; omega))
  refine wpAny_bind (wpAny_newList ?_ (Nat.zero_le _))
  refine wpAny_holding ?_
  have hG2 : ∀ b o, s.heap.get? b = some o → (PySem.W.sortingHeap G a its).get? b = some o := fun b o e => PySem.W.sortingHeap_old (Nat.ne_of_lt (by rw [← ha]; exact Nat.lt_succ_of_lt (Heap.lt_size e))) (hold b o e)
  show wpAny _ _ (ksk_rest a (.ref f) false its.toArray e1 (.ref ((G.update a (Obj.mapSeq fun _ => (#[] : Array Value))).push (seqObj "tuple" its.toArray 0)).objs.size)) _ _ { s with heap := PySem.W.sortingHeap G a its }
  have nk0 : (PySem.W.sortingHeap G a its).get? (((G.update a (Obj.mapSeq fun _ => (#[] : Array Value))).push (seqObj "tuple" its.toArray 0)).objs.size) = some (seqObj "list" #[] 0) := Heap.get?_push_size _ rfl
  have na0 : (PySem.W.sortingHeap G a its).get? a = some (seqObj "list" #[] e1) := Heap.get?_push_of_some _ (Heap.get?_push_of_some _ ho1)
  have hGs : s.heap.objs.size + 1 < G.objs.size := by omega
  have hge : s.heap.objs.size ≤ ((G.update a (Obj.mapSeq fun _ => (#[] : Array Value))).push (seqObj "tuple" its.toArray 0)).objs.size := by rw [hkS]; omega
  have hka : ((G.update a (Obj.mapSeq fun _ => (#[] : Array Value))).push (seqObj "tuple" its.toArray 0)).objs.size ≠ a := by rw [hkS]; omega
  generalize ((G.update a (Obj.mapSeq fun _ => (#[] : Array Value))).push (seqObj "tuple" its.toArray 0)).objs.size = kS at *
  have Ha : H a = none := I.hok.fresh (by omega)
  have HkS : H kS = none := I.hok.fresh hge
  have fa : FpOk X pins H a := I.fpOk (by omega) Ha
  have fk : FpOk X pins H kS := I.fpOk hge HkS
  have I0 : Inv X pins σ H { s with heap := PySem.W.sortingHeap G a its } := I.kept (t' := s.toks) hG2
  have ncell : ∀ (xs : Array Value) (n : Nat) (v : Option Value), (seqObj "list" xs n).data ≠ .cell v := fun _ _ _ z => by cases z
  generalize PySem.W.sortingHeap G a its = G2 at *
  -- the pins that stay
  have fpof : ∀ {H' : Hp} {b : Addr}, FpOk X pins H b → H' b = none → FpOk X pins H' b := fun {H' b} f h0 => ⟨h0, f.2⟩
  unfold ksk_rest
  refine wpAny_bind (wpAny_rule ?_)
  first
    | rw [List.forIn_toArray]
    | (rw [← Array.forIn_toList]; simp only [List.toList_toArray])
    | rw [← Array.forIn_toList]
  refine wpAny_bind (ksk_fold (fun i s' => ∃ H' kA e, Inv X pins σ H' s' ∧ Same H H' ∧ H' a = none ∧ H' kS = none ∧ s'.heap.get? kS = some (seqObj "list" kA e) ∧ s'.heap.get? a = some (seqObj "list" #[] e1) ∧ PySem.W.EachIs (fun (v : Value) (n : Int) => ∃ t, v = Value.int n t) kA.toList (ns.take i)) its 0 _
    ⟨H, #[], 0, I0, fun _ _ e => e, Ha, HkS, nk0, na0, by rw [List.take_zero]; exact .nil⟩ ?step ?done)
  case step =>
    rintro j x s' hx ⟨H', kA, e, I', e0, na', nk', gk, ga, hk⟩
    simp only [Nat.zero_add] at hk ⊢
    have hj : j < its.length := (List.getElem?_eq_some_iff.mp hx).1
    obtain ⟨n, hnj⟩ : ∃ n, ns[j]? = some n := ⟨_, List.getElem?_eq_getElem (by omega)⟩
    obtain ⟨v, hvj⟩ : ∃ v, xs[j]? = some v := ⟨_, List.getElem?_eq_getElem (by omega)⟩
    obtain ⟨u, hu, rvu⟩ := rv.get hvj
    obtain rfl : x = u := Option.some.inj (hx.symm.trans hu)
    have hzk : kA.size ≤ its.length := by
      have h1 := hk.length
      rw [Array.length_toList, List.length_take] at h1
      omega
    have hZ : its.length ≤ sizeLine := by omega
    have Ip : Inv X (pins ++ [(a, seqObj "list" #[] e1), (kS, seqObj "list" kA e)]) σ H' s' := I'.pins_of fun p hp => by
      rcases List.mem_append.mp hp with z | z
      · exact I'.pin p (List.mem_append_right _ z)
      · simp only [List.mem_cons, List.not_mem_nil, or_false] at z
        rcases z with rfl | rfl
        · exact ⟨ga, na', fa.2.1, fa.2.2.1, ncell _ _⟩
        · exact ⟨gk, nk', fk.2.1, fk.2.2.1, ncell _ _⟩
    refine wpAny_bind (wpAny_attempt (wpAny_mono (run_fn2 (E' := fun _ _ => False) F hr2 hb Ip (Paired.cons rvu .nil) (turn j v n hvj hnj H' (fun w H'' => w = .int n ∧ Same H' H'') e0 fun H'' e2 => ⟨rfl, e2⟩)) (fun w s2 he => ?_) fun _ _ hF => hF.elim))
    obtain ⟨w', H2, I2, rw', rfl, e2⟩ := he
    obtain ⟨tk, rfl⟩ := rw'
    try dsimp only
    have pa := I2.pin (a, seqObj "list" #[] e1) (List.mem_append_right _ (List.mem_append_right _ (.head _)))
    have pk := I2.pin (kS, seqObj "list" kA e) (List.mem_append_right _ (List.mem_append_right _ (.tail _ (.head _))))
    have I3 : Inv X pins σ H2 s2 := I2.unpinned
    have s1 := Heap.SameBut.update s2.heap kS (Obj.mapSeq (·.push (Value.int n tk)))
    obtain ⟨c2, hc2⟩ : ∃ c2, (s2.heap.update kS (Obj.mapSeq (·.push (Value.int n tk)))).get? kS = some (seqObj "list" (kA.push (Value.int n tk)) c2) := ⟨_, get?_update_seq pk.1 (·.push (Value.int n tk))⟩
    have ek : ns.take (j + 1) = ns.take j ++ [n] := by rw [List.take_add_one, hnj]; simp
    have ea : (kA.push (Value.int n tk)).toList = kA.toList ++ [Value.int n tk] := by simp
    refine wpAny_bind (listUpdate_at pk.1 rfl ?_ (Nat.le_trans hzk hZ) (Nat.le_trans (Nat.le_of_eq (Array.size_push ..)) (Nat.succ_le_succ (Nat.le_trans hzk hZ))))
    refine wpAny_pure ⟨rfl, H2, kA.push (Value.int n tk), c2, ?_, e0.trans e2, pa.2.1, pk.2.1, hc2, (s1.2 a hka.symm).trans pa.1, ?_⟩
    · exact I3.turned (t' := s2.toks) (it := kS) (fun b o hb e => (s1.2 b hb).trans e) pk.2.1 fk.2.1 fk.2.2.2.1 fk.2.2.2.2.1 fk.2.2.2.2.2
    · rw [ea, ek]
      exact PySem.W.each_snoc (R := fun (v : Value) (n : Int) => ∃ t, v = Value.int n t) ⟨tk, rfl⟩ hk
  case done =>
    rintro s' ⟨H', kA, e, I', e0, na', nk', gk, ga, hk⟩
    rw [Nat.zero_add, List.take_of_length_le (by omega)] at hk
    have hsz : kA.size = its.length := by
      have h1 := hk.length
      rw [Array.length_toList] at h1
      omega
    have hZ : its.length ≤ sizeLine := by omega
    try dsimp only
    refine wpAny_bind (listItems_at gk rfl ?_)
    let bs : List (V × Int) := xs.zip ns
    let kz : List PyData := bs.map fun b => .int b.2
    have ekz : kz = ns.map PyData.int := by
      show (xs.zip ns).map (fun b => PyData.int b.2) = _
      rw [show (fun b : V × Int => PyData.int b.2) = PyData.int ∘ Prod.snd from rfl, ← List.map_map, List.map_snd_zip (by omega)]
    have hk' : PySem.W.EachIs (fun v k => ∃ as, Reads s'.heap v k as) kA.toList kz := by
      rw [ekz]
      clear ekz hsz gk
      generalize kA.toList = us at hk
      clear q turn hn
      induction hk with
      | nil => exact .nil
      | cons h1 _ ih =>
        obtain ⟨t, rfl⟩ := h1
        exact .cons ⟨[], .int _ t⟩ ih
    have hal : PySem.W.AllAlike kz := by
      rw [ekz]
      intro d hd d' hd'
      obtain ⟨i, _, rfl⟩ := List.mem_map.mp hd
      obtain ⟨j, _, rfl⟩ := List.mem_map.mp hd'
      rfl
    have hsk : PySem.W.Sortable kz := by
      rw [ekz]
      refine .inr fun d hd => ?_
      obtain ⟨i, _, rfl⟩ := List.mem_map.mp hd
      exact ⟨(fun z => by cases z), (fun _ z => by cases z)⟩
    have hu : ∀ d, d ∈ kz → (X.A.in1.in1).units + d.depth < cLine := by
      rw [ekz]
      intro d hd
      obtain ⟨i, _, rfl⟩ := List.mem_map.mp hd
      have e0 : (PyData.int i).depth ≤ 100 := by simp only [PyData.depth]; omega
      omega
    have hkb : kz.length = its.length := by rw [ekz, List.length_map]; omega
    refine PySem.W.keyH_end (h₁ := PySem.W.hideAll s'.heap [kS]) (κ := PySem.W.dataKind s'.heap kz) (fun b o hb e => PySem.W.of_hideAll _ e) (PySem.W.hideAll_none _ (.head _)) gk ga hka (PySem.W.SortsAt.data hk' hal hsk hu) hsz hZ fun h' tk c kp hA' => ⟨rfl, ?_⟩
    have ko : PySem.W.KeyedOut false kz its (PySem.W.sortVals (PySem.W.dataKind s'.heap kz) false kA.toList its) := ⟨s'.heap, kA.toList, hal, rfl, hk'⟩
    generalize PySem.W.sortVals (PySem.W.dataKind s'.heap kz) false kA.toList its = out at *
    have hR : PySem.W.EachIs (fun (u : Value) (b : V × Int) => RelV b.1 u) its bs := by
      have hn' : ns.length = its.length := by omega
      exact each_zip rv hn'
    have hout := PySem.W.keyedOut_each (fun b : V × Int => PyData.int b.2) ko hR
    have hle : PySem.W.dataLe false (fun b : V × Int => PyData.int b.2) = fun a b => decide (a.2 ≤ b.2) := PySem.W.dataLe_int _
    rw [hle] at hout
    have hperm : (bs.mergeSort fun a b => decide (a.2 ≤ b.2)).Perm (xs.zip ns) := List.mergeSort_perm _ _
    have hpw : (bs.mergeSort fun a b => decide (a.2 ≤ b.2)).Pairwise (fun b c => b.2 ≤ c.2) := by
      have := List.pairwise_mergeSort (le := fun a b : V × Int => decide (a.2 ≤ b.2)) (fun a b c h1 h2 => by simp at *; omega) (fun a b => by simp; omega) bs
      exact this.imp fun h => by simpa using h
    generalize (bs.mergeSort fun a b => decide (a.2 ≤ b.2)) = ys at *
    have hvals : Vals (ys.map (·.1)) out := by
      clear hperm hpw ko hA'
      induction hout with
      | nil => exact .nil
      | cons h1 _ ih => exact .cons h1 ih
    have hyl : (ys.map (·.1)).length ≤ sizeLine := by
      rw [List.length_map, hperm.length_eq, List.length_zip]
      omega
    have I4 : Inv X pins σ H' { s' with heap := h', toks := tk } := I'.turnedL (ch := [a, kS]) (fun b o hb e => by
      simp only [List.mem_cons, List.not_mem_nil, or_false, not_or] at hb
      exact kp b o hb.1 (PySem.W.hideAll_get _ e (by simp [hb.2]))) (fun b hb => by
        simp only [List.mem_cons, List.not_mem_nil, or_false] at hb
        rcases hb with rfl | rfl
        · exact fpof fa na'
        · exact fpof fk nk')
    have I5 := I4.take (h' := h') (t' := tk) (it := a) (o := .lst (ys.map (·.1))) (fun b ob _ e => e) (fpof fa na') ⟨hyl, out, c, hvals, hA'⟩
    exact ⟨.ref a, _, I5, rfl, q ys H' a hperm hpw e0 na'⟩

def tSortOwn (K : PySem.W.Frag) (f : Addr) (sp : Sp) (E : XK) (ta tk : TA) : TE := fun σ H Q => ta σ H fun vs H1 => tk σ H1 fun zs H2 => rSortOwn K f sp E vs zs H2 Q
theorem pe_sortOwn {y : Str} {st : Stmt} {pp : List Str} {e : Expr} {kws : List Keyword} {t tk : TA} {p pos : Pos} {f' : Addr} {j : Nat} (F : Ok X.prog X.w X.K X.mg X.base CX0 k y st pp sp) (hf : X.mg y = some (.ref f')) (hr : Room j X.A) (hj : k + 2 ≤ j) (hg : Gl X "sorted") (hm : X.mg "sorted" = none) (ha : PA X [e] t) (hk : PK X kws tk)
    (he : backTo pos (starEach [e] X.env) = (false, eval e X.env) :: backTo pos (starEach [] X.env) := by rfl) (hpl : (backTo pos (starEach [e] X.env)).any (·.1) = false := by rfl)
    (hall : (backToKw pos (keywordEach kws X.env)).all (·.1.isSome) = true := by rfl) (hnone : (backToKw pos (keywordEach kws X.env)).any (·.1.isNone) = false := by rfl) (hks : (backToKw pos (keywordEach kws X.env)).filterMap (·.1) = [Str.ofString "key"] := by rfl) :
    PE X (.Call (.Name "sorted" p) [e] kws pos) (tSortOwn X.K f' sp E t tk) := by
  obtain ⟨f, fd, g, D, b, F⟩ := F.ex
  obtain rfl : f = f' := by rw [g] at hf; cases hf; rfl
  exact pe_callBK (cr_sortOwn F (hr.mono hj) b) hg hm (by decide +kernel) ha hk (he := he) (hpl := hpl) (hall := hall) (hnone := hnone) (hks := hks)
end
section
variable {σ : L2.St} {H : Hp} {Q : VK} {K : PySem.W.Frag} {f : Addr} {sp : Sp} {E : XK} {ta tk : TA}
theorem r_sortOwn (h : ta σ H fun vs H1 => tk σ H1 fun zs H2 => rSortOwn K f sp E vs zs H2 Q) : tSortOwn K f sp E ta tk σ H Q := h
end
end Tf

set_option linter.all false
set_option maxRecDepth 100000
set_option maxHeartbeats 4000000
/-! words at places: the way back from a place to its word; all words by their places -/
namespace Tf
open PySem L2
def bhc (p : Int) (j : Int) : Nat := if p % 2 = 0 then (if j = 0 then 115 else if j = 1 then 110 else 102) else (if j = 0 then 102 else if j = 1 then 110 else 115)
/-- the word of n letters at the place a -/
def wdn : Nat → Int → List Nat
  | 0, _ => []
  | n + 1, a => wdn n (a / 3) ++ [bhc (a / 3) (a % 3)]
theorem wdn_len : ∀ (n : Nat) (a : Int), (wdn n a).length = n
  | 0, _ => rfl
  | n + 1, a => by rw [wdn, List.length_append, wdn_len n]; rfl
theorem bhc_fa (p j : Int) : bhc p j = 110 ∨ bhc p j = 102 ∨ bhc p j = 115 := by unfold bhc; split <;> split <;> (try split) <;> simp
theorem wdn_wd : ∀ (n : Nat) (a : Int), Wd (wdn n a)
  | 0, _ => fun _ h => nomatch h
  | n + 1, a => fun c hc => by
    rw [wdn] at hc
    rcases List.mem_append.mp hc with h | h
    · exact wdn_wd n _ c h
    · rw [List.mem_singleton.mp h]; exact bhc_fa _ _
theorem ix_bhc (p : Int) {j : Int} (h : j = 0 ∨ j = 1 ∨ j = 2) : (ix p (bhc p j) : Int) = j := by
  unfold ix bhc
  rcases h with rfl | rfl | rfl <;> by_cases e : p % 2 = 0 <;> simp [e]
theorem bhc_ix (p : Int) {c : Nat} (h : c = 110 ∨ c = 102 ∨ c = 115) : bhc p (ix p c) = c := by
  unfold ix bhc
  rcases h with rfl | rfl | rfl <;> by_cases e : p % 2 = 0 <;> simp [e]
theorem pl_wdn : ∀ (n : Nat) (a : Int), 0 ≤ a → a < 3 ^ n → pl (wdn n a) = a
  | 0, a, h, h' => by
    have : a < 1 := by simpa using h'
    show (0 : Int) = a
    omega
  | n + 1, a, h, h' => by
    rw [Int.pow_succ] at h'
    rw [wdn, pl_snoc, pl_wdn n (a / 3) (by omega) (by omega)]
    unfold pst
    rw [ix_bhc _ (by omega)]
    omega
theorem wdn_pl (l : List Nat) (h : Wd l) : wdn l.length (pl l) = l := by
  have key : ∀ (n : Nat) (l : List Nat), l.length = n → Wd l → wdn n (pl l) = l := by
    intro n
    induction n with
    | zero => intro l hl _; rw [List.eq_nil_of_length_eq_zero hl]; rfl
    | succ n ih =>
      intro l hl hw
      obtain ⟨m, c, rfl⟩ : ∃ m c, l = m ++ [c] := ⟨l.dropLast, l.getLast (fun z => by simp [z] at hl), (List.dropLast_concat_getLast _).symm⟩
      have hm : m.length = n := by rw [List.length_append] at hl; simpa using hl
      have hc := hw c (by simp)
      have h3 := ix_le (pl m) c
      rw [wdn, pl_snoc]
      have e1 : pst (pl m) c / 3 = pl m := by unfold pst; omega
      have e2 : pst (pl m) c % 3 = (ix (pl m) c : Nat) := by unfold pst; omega
      rw [e1, e2, bhc_ix _ hc, ih m hm (fun x hx => hw x (by simp [hx]))]
  exact key _ l rfl h
theorem pl_inj {l m : List Nat} (hl : Wd l) (hm : Wd m) (e : l.length = m.length) (p : pl l = pl m) : l = m := by
  rw [← wdn_pl l hl, ← wdn_pl m hm, e, p]
/-- one letter more to the left of what is told so far -/
theorem wdn_step {n i : Nat} (hi : i < n) (b : Int) (l : List Nat) : wdn (n - (i + 1)) (b / 3) ++ (bhc (b / 3) (b % 3) :: l) = wdn (n - i) b ++ l := by
  rw [show n - i = (n - (i + 1)) + 1 by omega, wdn]
  simp
theorem behind_at (p : Int) {j : Int} (h : j = 0 ∨ j = 1 ∨ j = 2) : ∃ cs : List Nat, atI [V.str (S [115, 110, 102]), V.str (S [102, 110, 115])] (p % 2) = some (.str (S cs)) ∧ cs.length = 3 ∧ atI cs j = some (bhc p j) := by
  rcases (show p % 2 = 0 ∨ p % 2 = 1 by omega) with e | e
  · refine ⟨[115, 110, 102], by rw [e]; rfl, rfl, ?_⟩
    unfold bhc
    rw [if_pos e]
    rcases h with rfl | rfl | rfl <;> rfl
  · refine ⟨[102, 110, 115], by rw [e]; rfl, rfl, ?_⟩
    unfold bhc
    rw [if_neg (by omega)]
    rcases h with rfl | rfl | rfl <;> rfl
/-- all words of n letters, as they are made one letter after the other -/
def wordsL : Nat → List (List Nat)
  | 0 => [[]]
  | n + 1 => (wordsL n).flatMap fun w => [w ++ [110], w ++ [102], w ++ [115]]
theorem wordsL_mem : ∀ (n : Nat) (w : List Nat), w ∈ wordsL n → Wd w ∧ w.length = n
  | 0, w, h => by
    rw [wordsL, List.mem_singleton] at h
    subst h
    exact ⟨(fun _ z => by cases z), rfl⟩
  | n + 1, w, h => by
    rw [wordsL, List.mem_flatMap] at h
    obtain ⟨v, hv, hw⟩ := h
    obtain ⟨a, b⟩ := wordsL_mem n v hv
    simp only [List.mem_cons, List.not_mem_nil, or_false] at hw
    rcases hw with rfl | rfl | rfl
    · exact ⟨a.app (fun x hx => by rw [List.mem_singleton.mp hx]; exact .inl rfl), by simp [b]⟩
    · exact ⟨a.app (fun x hx => by rw [List.mem_singleton.mp hx]; exact .inr (.inl rfl)), by simp [b]⟩
    · exact ⟨a.app (fun x hx => by rw [List.mem_singleton.mp hx]; exact .inr (.inr rfl)), by simp [b]⟩
theorem wordsL_len (n : Nat) : (wordsL n).length = 3 ^ n := by
  induction n with
  | zero => rfl
  | succ n ih => rw [wordsL, List.length_flatMap]; simp only [List.length_cons, List.length_nil]; rw [List.map_const', List.sum_replicate_nat, ih, Nat.pow_succ]
theorem words_perm : ∀ n, n ≤ 4 → ((wordsL n).map pl).Perm ((List.range (3 ^ n)).map fun i : Nat => (i : Int))
  | 0, _ => by decide +kernel
  | 1, _ => by decide +kernel
  | 2, _ => by decide +kernel
  | 3, _ => by decide +kernel
  | 4, _ => by decide +kernel
  | n + 5, h => absurd h (by omega)
/-- the row of all words of n letters -/
def rowW (n : Nat) : List (List Nat) := (List.range (3 ^ n)).map fun i : Nat => wdn n i
theorem rowW_len (n : Nat) : (rowW n).length = 3 ^ n := by unfold rowW; simp
theorem rowW_at {n i : Nat} (h : i < 3 ^ n) : (rowW n)[i]? = some (wdn n i) := by unfold rowW; rw [List.getElem?_map, List.getElem?_range h]; rfl
/-- sorted by their places they are the row -/
theorem sorted_row {n : Nat} (hn : n ≤ 4) {ys : List (V × Int)} (hp : ys.Perm (((wordsL n).map fun w => V.str (S w)).zip ((wordsL n).map pl))) (hs : ys.Pairwise fun b c => b.2 ≤ c.2) : ys.map (·.1) = (rowW n).map fun w => V.str (S w) := by
  have hz : (((wordsL n).map fun w => V.str (S w)).zip ((wordsL n).map pl)) = (wordsL n).map fun w => (V.str (S w), pl w) := by
    rw [List.zip_map']
  rw [hz] at hp
  have h1 : ys = (ys.map (·.2)).map fun k => (V.str (S (wdn n k)), k) := by
    rw [List.map_map]
    have : ∀ y ∈ ys, ((fun k => (V.str (S (wdn n k)), k)) ∘ fun y : V × Int => y.2) y = y := by
      intro y hy
      obtain ⟨w, hw, rfl⟩ := List.mem_map.mp (hp.mem_iff.mp hy)
      obtain ⟨a, b⟩ := wordsL_mem n w hw
      show (V.str (S (wdn n (pl w))), pl w) = _
      rw [← b, wdn_pl w a]
    rw [List.map_congr_left this]
    simp
  have h2 : (ys.map (·.2)).Perm ((List.range (3 ^ n)).map fun i : Nat => (i : Int)) := by
    have := hp.map (·.2)
    rw [List.map_map] at this
    exact this.trans (words_perm n hn)
  have h3 : (ys.map (·.2)).Pairwise (· ≤ ·) := by rw [List.pairwise_map]; exact hs
  have h4 : ((List.range (3 ^ n)).map fun i : Nat => (i : Int)).Pairwise (· ≤ ·) := by
    rw [List.pairwise_map]
    exact List.pairwise_lt_range.imp fun h => by omega
  have h5 : ys.map (·.2) = (List.range (3 ^ n)).map fun i : Nat => (i : Int) := h2.eq_of_pairwise (fun a b _ _ h h' => Int.le_antisymm h h') h3 h4
  rw [h1, h5, List.map_map, List.map_map]
  unfold rowW
  rw [List.map_map]
  rfl
theorem acc_row {n : Nat} {acc : List V} (hl : acc.length = 3 ^ n) (hv : ∀ (j : Nat) v, acc[j]? = some v → v = .str (S (wdn n j))) : acc = (rowW n).map fun w => V.str (S w) := by
  refine List.ext_getElem? fun j => ?_
  by_cases hj : j < 3 ^ n
  · rw [List.getElem?_map, rowW_at hj, List.getElem?_eq_getElem (by omega)]
    exact congrArg some (hv j _ (List.getElem?_eq_getElem (by omega)))
  · rw [List.getElem?_eq_none (by omega), List.getElem?_eq_none (by rw [List.length_map, rowW_len]; omega)]
/-- a loop over a list that stays as it is -/
theorem for_L {K : PySem.W.Frag} {a : Addr} {xs : List V} {g : TG} {tb : TS} {D : Ends} {σ : L2.St} {H : Hp} (Pv : Nat → L2.St → Hp → Prop) (h0 : Pv 0 σ H) (hT : ∀ i σ H, Pv i σ H → SqL K H a xs)
    (hs : ∀ i x σ H, xs[i]? = some x → Pv i σ H → g x σ H fun σ2 H2 => tb { D with nx := Pv (i + 1), ct := Pv (i + 1), bk := D.nx } σ2 H2) (hd : ∀ σ H, Pv xs.length σ H → D.nx σ H) :
    ∃ W : Nat → Nat → L2.St → Hp → Prop, (∃ m, W 0 m σ H) ∧ ∀ i m σ H, W i m σ H →
      ((Itl K a).stop i H ∧ D.nx σ H) ∨ ((Itl K a).go i H ∧ ∃ N : L2.St → Hp → Prop, (∀ σ' H', N σ' H' → ∃ m', m' < m ∧ W (i + 1) m' σ' H') ∧ ∀ x H', (Itl K a).yld i H x H' → g x σ H' fun σ2 H2 => tb { D with nx := N, ct := N, bk := D.nx } σ2 H2) := by
  refine for_J (n := xs.length) Pv h0 (fun i σ H hi p => ⟨xs, xs[i], hT _ _ _ p, List.getElem?_eq_getElem hi⟩) (fun σ H p => ⟨xs, hT _ _ _ p, Nat.le_refl _⟩) (fun i x σ H H' hi p y => ?_) hd
  obtain ⟨rfl, f⟩ := y
  exact hs i x σ H' (f _ (hT _ _ _ p)) p
/-- the same over a tuple -/
theorem for_U {K : PySem.W.Frag} {a : Addr} {xs : List V} {g : TG} {tb : TS} {D : Ends} {σ : L2.St} {H : Hp} (Pv : Nat → L2.St → Hp → Prop) (h0 : Pv 0 σ H) (hT : ∀ i σ H, Pv i σ H → SqT K H a xs)
    (hs : ∀ i x σ H, xs[i]? = some x → Pv i σ H → g x σ H fun σ2 H2 => tb { D with nx := Pv (i + 1), ct := Pv (i + 1), bk := D.nx } σ2 H2) (hd : ∀ σ H, Pv xs.length σ H → D.nx σ H) :
    ∃ W : Nat → Nat → L2.St → Hp → Prop, (∃ m, W 0 m σ H) ∧ ∀ i m σ H, W i m σ H →
      ((Itt K a).stop i H ∧ D.nx σ H) ∨ ((Itt K a).go i H ∧ ∃ N : L2.St → Hp → Prop, (∀ σ' H', N σ' H' → ∃ m', m' < m ∧ W (i + 1) m' σ' H') ∧ ∀ x H', (Itt K a).yld i H x H' → g x σ H' fun σ2 H2 => tb { D with nx := N, ct := N, bk := D.nx } σ2 H2) := by
  refine for_J (n := xs.length) Pv h0 (fun i σ H hi p => ⟨xs, xs[i], hT _ _ _ p, List.getElem?_eq_getElem hi⟩) (fun σ H p => ⟨xs, hT _ _ _ p, Nat.le_refl _⟩) (fun i x σ H H' hi p y => ?_) hd
  obtain ⟨rfl, f⟩ := y
  exact hs i x σ H' (f _ (hT _ _ _ p)) p
/-- [f(c) for c in a text] -/
theorem lcS_map {l : List Nat} {g : TG} {te : TE} {vs : List Nat} {σ : L2.St} {H1 : Hp} {D : Addr} {Qd : Hp → Prop} (f : Nat → V) (hD : H1 D = none) (hl : l.length ≤ 1000000)
    (hs : ∀ (i c : Nat) (H : Hp), l[i]? = some c → Same H1 H → ∀ R : V → Hp → Prop, R (f c) H → g (.str (S [c])) (wipe σ vs) H fun σ2 H2 => wipe σ2 vs = wipe σ vs ∧ te σ2 H2 R)
    (hd : ∀ H, Same H1 H → H D = some (.lst (l.map f)) → Qd H) :
    ∃ W : Nat → Nat → Hp → Prop, (∃ m, W 0 m (upd H1 D (.lst []))) ∧ ∀ i m H, W i m H →
      ((Its (S l)).stop i H ∧ Qd H) ∨ ((Its (S l)).go i H ∧ ∃ Nx : Hp → Prop, (∀ H', Nx H' → ∃ m', m' < m ∧ W (i + 1) m' H') ∧ ∀ x H', (Its (S l)).yld i H x H' → g x (wipe σ vs) H' fun σ2 H2 => wipe σ2 vs = wipe σ vs ∧ tYes σ2 H2 fun b H3 =>
        if b = true then te σ2 H3 fun y H4 => ∃ acc, H4 D = some (.lst acc) ∧ acc.length < sizeLine ∧ Nx (upd H4 D (.lst (acc ++ [y]))) else Nx H3) := by
  have sz : (S l).cps.size = l.length := by unfold S; simp
  refine lc_acc (n := l.length) (fun i H' => Same H1 H') (fun i v => ∃ c, l[i]? = some c ∧ v = f c) hl (same_new hD) (fun i H' acc acc' e _ => Same.mut e hD) (fun i H' hi e => ?_) (fun H' e => ?_) ?_ ?_
  · show i < (S l).cps.size
    rw [sz]; exact hi
  · show (S l).cps.size ≤ l.length
    omega
  · rintro i v H' H2 acc hi e hacc y R hR
    obtain ⟨rfl, c, h2, rfl⟩ := y
    have h1 : l[i]? = some c := by
      have : (S l).cps.toList[i]? = some c := by simpa using h2
      rwa [S_codes] at this
    exact hs i c H2 h1 e R (hR _ _ hacc ⟨c, h1, rfl⟩ e)
  · intro H' acc hl2 hv hacc e
    have : acc = l.map f := by
      refine List.ext_getElem? fun j => ?_
      by_cases hj : j < l.length
      · rw [List.getElem?_map, List.getElem?_eq_getElem hj, List.getElem?_eq_getElem (by omega : j < acc.length)]
        obtain ⟨c, h1, h2⟩ := hv j _ (List.getElem?_eq_getElem (by omega : j < acc.length))
        rw [List.getElem?_eq_getElem hj] at h1
        cases h1
        exact congrArg some h2
      · rw [List.getElem?_eq_none (by omega), List.getElem?_eq_none (by rw [List.length_map]; omega)]
    rw [this] at hacc
    exact hd _ e hacc
/-- how many numbers two places share -/
def shr (p q : Int) : Int := (if (nu p).1 = (nu q).1 then 1 else 0) + (if (nu p).2 = (nu q).2 then 1 else 0)
theorem shr_far {p q : Int} (h : p + 2 ≤ q ∨ q + 2 ≤ p) : shr p q = 0 := by
  unfold shr nu
  split <;> split <;> simp <;> omega
theorem shr_near {p q : Int} (h : q = p + 1 ∨ q = p - 1) : shr p q = 1 := by
  unfold shr nu
  rcases h with rfl | rfl <;> split <;> split <;> (try omega) <;> simp <;> (try split) <;> omega
end Tf

set_option Elab.async false
set_option linter.all false
set_option maxRecDepth 100000
set_option maxHeartbeats 2000000
/-! talks: marks, numbers, ends -/
namespace Tf
open PySem PySem.Spec PyProof.Rows L2
abbrev LsT : Type := List Nat × List Nat
def BarL (K : PySem.W.Frag) (H : Hp) (b : Addr) (Ls : List LsT) : Prop := ∃ ts : List Addr, SqT K H b (ts.map V.ref) ∧ Paired (fun (l : LsT) t => SqT K H t [.str (S l.1), .str (S l.2)]) Ls ts
/-- each a loss -/
def LsOk (Ls : List LsT) : Prop := ∀ l ∈ Ls, Wd l.1 ∧ Wd l.2 ∧ l.1.length ≤ 200 ∧ l.2.length ≤ 200 ∧ 0 < l.2.length
def fL (l : LsT) : Nat → Nat := rw l.1 l.2
def mkF (Ls : List LsT) (n : Nat) : Int := (Ls.map fun l => P (fL l) n).foldl max 0
theorem max_fold : ∀ (ns : List Int) (k : Int), k ≤ ns.foldl max k ∧ (∀ y ∈ ns, y ≤ ns.foldl max k) ∧ (ns.foldl max k = k ∨ ns.foldl max k ∈ ns)
  | [], k => ⟨Int.le_refl _, (fun y h => nomatch h), .inl rfl⟩
  | n :: ns, k => by
    obtain ⟨h1, h2, h3⟩ := max_fold ns (max k n)
    refine ⟨Int.le_trans (Int.le_max_left k n) h1, fun y hy => ?_, ?_⟩
    · rcases List.mem_cons.mp hy with rfl | hy
      · exact Int.le_trans (Int.le_max_right k y) h1
      · exact h2 y hy
    · rcases h3 with h3 | h3
      · show (ns.foldl max (max k n) = k) ∨ ns.foldl max (max k n) ∈ n :: ns
        rw [h3]
        rcases Int.le_total k n with h | h
        · rw [Int.max_eq_right h]; exact .inr List.mem_cons_self
        · rw [Int.max_eq_left h]; exact .inl rfl
      · exact .inr (List.mem_cons_of_mem _ h3)
theorem max_is {ns : List Int} {m : Int} (h0 : ∀ y ∈ ns, 0 ≤ y) (hm : m ∈ ns) (hle : ∀ y, y ∈ ns → y ≤ m) : m = ns.foldl max 0 := by
  obtain ⟨h1, h2, h3⟩ := max_fold ns 0
  rcases h3 with h3 | h3
  · have := h2 m hm
    have := h0 m hm
    omega
  · have := hle _ h3
    have := h2 m hm
    omega
theorem mkF_is {Ls : List LsT} {n : Nat} {m : Int} (hm : m ∈ Ls.map fun l => P (fL l) n) (hle : ∀ y, y ∈ (Ls.map fun l => P (fL l) n) → y ≤ m) : m = mkF Ls n :=
  max_is (fun y hy => by obtain ⟨l, _, rfl⟩ := List.mem_map.mp hy; exact P_nn _ _) hm hle
theorem mkF_nn (Ls : List LsT) (n : Nat) : 0 ≤ mkF Ls n := (max_fold _ 0).1
theorem mkF_zero (Ls : List LsT) : mkF Ls 0 = 0 := by
  obtain ⟨_, _, h3⟩ := max_fold (Ls.map fun l => P (fL l) 0) 0
  rcases h3 with h3 | h3
  · exact h3
  · obtain ⟨l, _, e⟩ := List.mem_map.mp h3
    exact e.symm
theorem BarL.same {K : PySem.W.Frag} {H H' : Hp} {b : Addr} {Ls : List LsT} (e : Same H H') (h : BarL K H b Ls) : BarL K H' b Ls := by
  obtain ⟨ts, h1, h2⟩ := h
  exact ⟨ts, Same.sqt e h1, h2.mono fun _ _ h => Same.sqt e h⟩
theorem pls_range (l : List Nat) (f : Nat → Nat) (n : Nat) (e : l = seg f 0 n) : (pls l).map V.int = (List.range (n + 1)).map fun i => V.int (P f i) := by
  subst e
  unfold pls
  rw [seg_len, List.map_map]
  refine List.map_congr_left fun i hi => ?_
  have := List.mem_range.mp hi
  show V.int (pl ((seg f 0 n).take i)) = _
  rw [seg_take (by omega)]
  rfl
/-! numbers -/
def ended (o : Option Int) (m : Int) : Bool := match o with
  | none => false
  | some v => decide (1 < ab (v - m))
def sentO (o : Option Int) (m : Int) : Option Int := if ended o m = true then none else o
def nextO (a h : Option Int) : Option Int := match a with
  | none => none
  | some a => some (match h with
    | none => 3 * a
    | some b => a + 2 * b)
def rowF (M : Nat → Int) (f : Nat → Nat) : Nat → Option Int × Option Int
  | 0 => (some 0, some 1)
  | n + 1 => (nextO (sentO (rowF M f n).1 (M n)) (if f n = 115 then none else sentO (rowF M f n).2 (M n)), nextO (sentO (rowF M f n).2 (M n)) (if f n = 102 then none else sentO (rowF M f n).1 (M n)))
def numV : Option Int → V
  | none => .non
  | some v => .int v
/-- a number is missing only behind an end -/
def Fine (N : Nat → Option Int) (M : Nat → Int) : Prop := ∀ i, N i = none → ∃ j, j < i ∧ ended (N j) (M j) = true
theorem nextO_none {a h : Option Int} (e : nextO a h = none) : a = none := by
  cases a with
  | none => rfl
  | some a => cases e
theorem sentO_none {a : Option Int} {m : Int} (e : sentO a m = none) : a = none ∨ ended a m = true := by
  unfold sentO at e
  by_cases h : ended a m = true
  · exact .inr h
  · rw [if_neg h] at e; exact .inl e
theorem fine_of {N : Nat → Option Int} {M : Nat → Int} (h0 : N 0 ≠ none) (hs : ∀ n, N (n + 1) = none → sentO (N n) (M n) = none) : Fine N M := by
  intro i
  induction i with
  | zero => intro e; exact absurd e h0
  | succ n ih =>
    intro e
    rcases sentO_none (hs n e) with e | e
    · obtain ⟨j, h1, h2⟩ := ih e
      exact ⟨j, by omega, h2⟩
    · exact ⟨n, by omega, e⟩
theorem row_fine1 (M : Nat → Int) (f : Nat → Nat) : Fine (fun i => (rowF M f i).1) M := fine_of (by simp [rowF]) fun n e => nextO_none e
theorem row_fine2 (M : Nat → Int) (f : Nat → Nat) : Fine (fun i => (rowF M f i).2) M := fine_of (by simp [rowF]) fun n e => nextO_none e
def RowsAt (H : Hp) (p : Addr) (M : Nat → Int) (R : Nat → Option Int × Option Int) (k : Nat) : Prop := ∃ ts : List Addr, H p = some (.lst (ts.map V.ref)) ∧ ts.length = k ∧ ∀ (i : Nat) t, ts[i]? = some t → H t = some (.tup [.int (M i), numV (R i).1, numV (R i).2])
theorem RowsAt.same {H H' : Hp} {p : Addr} {M : Nat → Int} {R : Nat → Option Int × Option Int} {k : Nat} (e : Same H H') (h : RowsAt H p M R k) : RowsAt H' p M R k := by
  obtain ⟨ts, h1, h2, h3⟩ := h
  exact ⟨ts, e _ _ h1, h2, fun i t et => e _ _ (h3 i t et)⟩
theorem RowsAt.add {H : Hp} {p t : Addr} {M : Nat → Int} {R : Nat → Option Int × Option Int} {k : Nat} (h : RowsAt H p M R k) (ht : H t = some (.tup [.int (M k), numV (R k).1, numV (R k).2])) :
    ∃ ts : List Addr, H p = some (.lst (ts.map V.ref)) ∧ ts.length = k ∧ RowsAt (upd H p (.lst (ts.map V.ref ++ [.ref t]))) p M R (k + 1) := by
  obtain ⟨ts, h1, h2, h3⟩ := h
  have keep : ∀ b ys, H b = some (.tup ys) → (upd H p (.lst (ts.map V.ref ++ [.ref t]))) b = some (.tup ys) := fun b ys h => (upd_ne fun z => by subst z; rw [h1] at h; cases h).trans h
  refine ⟨ts, h1, h2, ts ++ [t], by rw [upd_same, List.map_append]; rfl, by rw [List.length_append, h2]; rfl, fun i u eu => ?_⟩
  rw [List.getElem?_append] at eu
  split at eu
  · exact keep _ _ (h3 i u eu)
  · have hi : i - ts.length = 0 := by
      have := (List.getElem?_eq_some_iff.mp eu).1
      simp at this; omega
    rw [hi] at eu
    obtain rfl : t = u := Option.some.inj eu
    have : i = k := by omega
    subst this
    exact keep _ _ ht
/-- how a player ends -/
def EndAt (H : Hp) (N : Nat → Option Int) (M : Nat → Int) (n : Nat) (w0 w1 : Int) (x : V) : Prop := (x = .non ∧ ∀ j, j ≤ n → ended (N j) (M j) = false) ∨
  ∃ j v u, j ≤ n ∧ N j = some v ∧ 1 < ab (v - M j) ∧ (∀ i, i < j → ended (N i) (M i) = false) ∧ x = .ref u ∧ H u = some (.tup [.int (j : Nat), .int (if v < M j then w0 else w1)])
theorem EndAt.same {H H' : Hp} {N : Nat → Option Int} {M : Nat → Int} {n : Nat} {w0 w1 : Int} {x : V} (e : Same H H') (h : EndAt H N M n w0 w1 x) : EndAt H' N M n w0 w1 x := by
  rcases h with h | ⟨j, v, u, h1, h2, h3, h4, h5, h6⟩
  · exact .inl h
  · exact .inr ⟨j, v, u, h1, h2, h3, h4, h5, e _ _ h6⟩
theorem EndAt.eqv {K : PySem.W.Frag} {H : Hp} {N : Nat → Option Int} {M : Nat → Int} {n : Nat} {w0 w1 : Int} {x y : V} {bo : Bool} {k : Nat} (h : EndAt H N M n w0 w1 x) (h' : EndAt H N M n w0 w1 y) : Eqv K H bo (k + 1) x y := by
  rcases h with ⟨rfl, h⟩ | ⟨j, v, u, h1, h2, h3, h4, rfl, h6⟩
  · rcases h' with ⟨rfl, h'⟩ | ⟨j, v, u, h1, h2, h3, h4, rfl, h6⟩
    · exact .non
    · have := h j h1
      rw [h2] at this
      exact absurd h3 (of_decide_eq_false this)
  · rcases h' with ⟨rfl, h'⟩ | ⟨j', v', u', h1', h2', h3', h4', rfl, h6'⟩
    · have := h' j h1
      rw [h2] at this
      exact absurd h3 (of_decide_eq_false this)
    · have e1 : ended (N j) (M j) = true := by rw [h2]; exact decide_eq_true h3
      have e2 : ended (N j') (M j') = true := by rw [h2']; exact decide_eq_true h3'
      have ej : j = j' := by
        rcases Nat.lt_trichotomy j j' with h | h | h
        · rw [h4' j h] at e1; cases e1
        · exact h
        · rw [h4 j' h] at e2; cases e2
      subst ej
      obtain rfl : v = v' := Option.some.inj (h2.symm.trans h2')
      exact .flat (SqT.of h6) (SqT.of h6') (by show 2 ≤ 1000000; decide) fun x hx => by
        simp only [List.mem_cons, List.not_mem_nil, or_false] at hx
        rcases hx with rfl | rfl <;> exact .inl ⟨_, rfl, rfl⟩
/-- losses that may be barred together -/
def GoodB (Ls : List LsT) : Prop := (∃ l : LsT, Ls = [l] ∧ ∀ a b, Least l.1 l.2 a b → twn a b = none) ∨ ∃ l m : LsT, Ls = [l, m] ∧ ∀ a b a' b', Least l.1 l.2 a b → Least m.1 m.2 a' b' → twn a b = some (a', b')
theorem GoodB.len {Ls : List LsT} (h : GoodB Ls) : Ls.length = 1 ∨ Ls.length = 2 := by
  rcases h with ⟨l, rfl, _⟩ | ⟨l, m, rfl, _⟩
  · exact .inl rfl
  · exact .inr rfl
theorem BarL.one {K : PySem.W.Frag} {H : Hp} {b : Addr} {l : LsT} (h : BarL K H b [l]) : ∃ t, SqT K H b [.ref t] ∧ SqT K H t [.str (S l.1), .str (S l.2)] := by
  obtain ⟨ts, h1, h2⟩ := h
  cases h2 with
  | cons h h2 => cases h2; exact ⟨_, h1, h⟩
theorem BarL.two {K : PySem.W.Frag} {H : Hp} {b : Addr} {l m : LsT} (h : BarL K H b [l, m]) : ∃ t u, SqT K H b [.ref t, .ref u] ∧ SqT K H t [.str (S l.1), .str (S l.2)] ∧ SqT K H u [.str (S m.1), .str (S m.2)] := by
  obtain ⟨ts, h1, h2⟩ := h
  cases h2 with
  | cons h h2 =>
    cases h2 with
    | cons h' h2 => cases h2; exact ⟨_, _, h1, h, h'⟩
theorem len_two {α : Type} {l : List α} (h : l.length = 2) : ∃ a b, l = [a, b] := by
  match l, h with
  | [a, b], _ => exact ⟨a, b, rfl⟩
/-- barred ones, as they stand in the heap -/
def BarH (H : Hp) (b : Addr) (Ls : List LsT) : Prop := ∃ ts : List Addr, H b = some (.tup (ts.map V.ref)) ∧ Paired (fun (l : LsT) t => H t = some (.tup [.str (S l.1), .str (S l.2)])) Ls ts
theorem BarH.s {K : PySem.W.Frag} {H : Hp} {b : Addr} {Ls : List LsT} (h : BarH H b Ls) : BarL K H b Ls := by
  obtain ⟨ts, h1, h2⟩ := h
  exact ⟨ts, SqT.of h1, h2.mono fun _ _ h => SqT.of h⟩
theorem BarH.same {H H' : Hp} {b : Addr} {Ls : List LsT} (e : Same H H') (h : BarH H b Ls) : BarH H' b Ls := by
  obtain ⟨ts, h1, h2⟩ := h
  exact ⟨ts, e _ _ h1, h2.mono fun _ _ h => e _ _ h⟩
theorem BarH.but {H H' : Hp} {a b : Addr} {c : Int} {Ls : List LsT} (e : But a H H') (P : PotAt H a c) (h : BarH H b Ls) : BarH H' b Ls := by
  obtain ⟨ts, h1, h2⟩ := h
  exact ⟨ts, e _ _ (tup_neP h1 P) h1, h2.mono fun _ _ h => e _ _ (tup_neP h P) h⟩
def SmallB (Ls : List LsT) : Prop := ∀ l ∈ Ls, Wd l.1 ∧ Wd l.2 ∧ l.1.length ≤ 5 ∧ l.2.length ≤ 4 ∧ 0 < l.2.length
theorem SmallB.ok {Ls : List LsT} (h : SmallB Ls) : LsOk Ls := fun l hl => by
  obtain ⟨h1, h2, h3, h4, h5⟩ := h l hl
  exact ⟨h1, h2, by omega, by omega, h5⟩
theorem rw_two {h : List Nat} {v : Nat} : rw h [v, v] = rw h [v] := rw_often (h := h) (r := [v]) (k := 2) (by show 0 < 1; decide) (by decide)
/-- twins by hand -/
theorem twins_good {l : List Nat} {u v : Nat} (huv : (u = 102 ∧ v = 115) ∨ (u = 115 ∧ v = 102)) {r : List Nat} (hr : r = [v] ∨ r = [v, v]) :
    (∀ a b a' b', Least (l ++ [u]) [v] a b → Least (l ++ [110]) r a' b' → twn a b = some (a', b')) ∧ ∀ a b a' b', Least (l ++ [110]) r a b → Least (l ++ [u]) [v] a' b' → twn a b = some (a', b') := by
  have nv : u ≠ v ∧ (110 : Nat) ≠ v := by rcases huv with ⟨rfl, rfl⟩ | ⟨rfl, rfl⟩ <;> decide
  have e2 : rw (l ++ [110]) r = rw (l ++ [110]) [v] := by
    rcases hr with rfl | rfl
    · rfl
    · exact rw_two
  have A : ∀ {a b}, Least (l ++ [u]) [v] a b → a = l ++ [u] ∧ b = [v] := fun x => Least.uniq rfl x (least_twn nv.1)
  have B : ∀ {a b}, Least (l ++ [110]) r a b → a = l ++ [110] ∧ b = [v] := fun x => Least.uniq e2 x (least_twn nv.2)
  have t1 : twn (l ++ [u]) [v] = some (l ++ [110], [v]) := by
    unfold twn
    rcases huv with ⟨rfl, rfl⟩ | ⟨rfl, rfl⟩
    · rw [if_pos rfl, List.getLast?_concat, if_pos rfl, List.dropLast_concat]
    · rw [if_neg (by decide), if_pos rfl, List.getLast?_concat, if_pos rfl, List.dropLast_concat]
  refine ⟨fun a b a' b' x y => ?_, fun a b a' b' x y => ?_⟩
  · obtain ⟨rfl, rfl⟩ := A x
    obtain ⟨rfl, rfl⟩ := B y
    exact t1
  · obtain ⟨rfl, rfl⟩ := B x
    obtain ⟨rfl, rfl⟩ := A y
    exact twn_sym t1
/-! no twins -/
theorem const_ring {h r a : List Nat} {v : Nat} (x : Least h r a [v]) (r0 : 0 < r.length) : ∀ y ∈ r, y = v := by
  intro y hy
  obtain ⟨j, hj⟩ := List.mem_iff_getElem?.mp hy
  have lj := (List.getElem?_eq_some_iff.mp hj).1
  have e1 : rw a [v] (h.length + (j + r.length * (a.length + 1))) = rw h r (h.length + (j + r.length * (a.length + 1))) := congrFun x.row _
  have big : a.length ≤ h.length + (j + r.length * (a.length + 1)) := by
    have : a.length + 1 ≤ r.length * (a.length + 1) := Nat.le_mul_of_pos_left _ r0
    omega
  rw [rw_ge big, rw_ge (by omega), Nat.add_sub_cancel_left, Nat.add_mul_mod_self_left, Nat.mod_eq_of_lt lj, List.getD_eq_getElem?_getD, List.getD_eq_getElem?_getD, hj] at e1
  rw [show ([v] : List Nat).length = 1 from rfl, Nat.mod_one] at e1
  exact e1.symm
theorem twn_const {a b : List Nat} (h : ∀ v, b = [v] → (v = 115 ∨ v = 102) → False) : twn a b = none := by
  unfold twn
  rw [if_neg fun z => h 115 z (.inl rfl), if_neg fun z => h 102 z (.inr rfl)]
theorem fair_none {h r a b : List Nat} {c : Nat} (x : Least h r a b) (r0 : 0 < r.length) (hc : r.head? = some c) (hf : ((r.any fun x => !decide (x = c)) || decide (c = 110)) = true) : twn a b = none := by
  refine twn_const fun v hv hv2 => ?_
  subst hv
  have k := const_ring x r0
  have cm : c ∈ r := List.mem_of_mem_head? hc
  have ec := k c cm
  rcases Bool.or_eq_true_iff.mp hf with h1 | h1
  · obtain ⟨y, hy, h2⟩ := List.any_eq_true.mp h1
    rw [k y hy, ec] at h2
    simp at h2
  · have := of_decide_eq_true h1
    omega
theorem more_none {h r a b : List Nat} (x : Least h (r ++ [110]) a b) : twn a b = none := by
  refine twn_const fun v hv hv2 => ?_
  subst hv
  have := const_ring x (by simp) 110 (by simp)
  omega
theorem least_end (v : Nat) : Least [] [v] [] [v] := by
  have m : IsMin (rw [] [v]) 0 1 := ⟨by decide, rw_per [] [v], fun _ _ _ _ => Nat.zero_le _, fun p hp _ => hp⟩
  exact Least.of (linv_start (h := []) (by show 0 < 1; decide) m) (.inl rfl)
theorem end_none {h r a b : List Nat} {v : Nat} (e : rw h r = rw [] [v]) (x : Least h r a b) : twn a b = none := by
  obtain ⟨rfl, rfl⟩ := Least.uniq e x (least_end v)
  unfold twn
  split
  · rfl
  · split <;> rfl
theorem rw_ff (v : Nat) : rw [v, v] [v] = rw [] [v] := (rw_longer (h := [v]) (r := [v]) (by show 0 < 1; decide)).trans (rw_longer (h := []) (r := [v]) (by show 0 < 1; decide))
theorem rw_three (v : Nat) : rw [] [v, v, v] = rw [] [v] := rw_often (h := []) (r := [v]) (k := 3) (by show 0 < 1; decide) (by decide)
theorem EndAt.lst {H : Hp} {N : Nat → Option Int} {M : Nat → Int} {n : Nat} {w0 w1 : Int} {x : V} {p : Addr} {xs ys : List V} (hp : H p = some (.lst xs)) (h : EndAt H N M n w0 w1 x) : EndAt (upd H p (.lst ys)) N M n w0 w1 x := by
  rcases h with h | ⟨j, v, u, h1, h2, h3, h4, h5, h6⟩
  · exact .inl h
  · exact .inr ⟨j, v, u, h1, h2, h3, h4, h5, (upd_ne fun z => by subst z; rw [hp] at h6; cases h6).trans h6⟩
/-! along a barred loss -/
theorem least_exists {h r : List Nat} (r0 : 0 < r.length) : ∃ a b, Least h r a b := by
  obtain ⟨m, ⟨p0, hp0, hm⟩, hmin⟩ := least_ex (P := fun m => ∃ p, 0 < p ∧ Per (rw h r) m p) h.length ⟨r.length, r0, rw_per h r⟩
  obtain ⟨p, ⟨hp, hper⟩, hpmin⟩ := least_ex (P := fun p => 0 < p ∧ Per (rw h r) m p) p0 ⟨hp0, hm⟩
  refine ⟨seg (rw h r) 0 m, seg (rw h r) m p, per_rw hper hp, ?_⟩
  rw [seg_len, seg_len]
  exact ⟨hp, hper, fun m' p' h1 h2 => hmin m' ⟨p', h1, h2⟩, fun p' h1 h2 => hpmin p' ⟨h1, h2⟩⟩
theorem fL_fa {l : LsT} (h : Wd l.1 ∧ Wd l.2 ∧ l.1.length ≤ 200 ∧ l.2.length ≤ 200 ∧ 0 < l.2.length) (i : Nat) : Fa (fL l i) := rw_fa h.1 h.2.1 h.2.2.2.2 i
/-- what is known of two losses that are barred together -/
theorem pair_rows {l m : LsT} (l0 : 0 < l.2.length) (m0 : 0 < m.2.length) (ht : ∀ a b a' b', Least l.1 l.2 a b → Least m.1 m.2 a' b' → twn a b = some (a', b')) :
    ∃ i c, (∀ j, j < i → fL l j = fL m j) ∧ (c = 102 ∨ c = 115) ∧ fL l i ≠ fL m i ∧ fL l i ≠ c ∧ fL m i ≠ c ∧ (∀ j, i < j → fL l j = c) ∧ ∀ j, i < j → fL m j = c := by
  obtain ⟨a, b, x⟩ := least_exists (h := l.1) l0
  obtain ⟨a', b', y⟩ := least_exists (h := m.1) m0
  obtain ⟨z, u, v, c, rfl, rfl, e, hc, huv, huc, hvc, _, _⟩ := twn_some (ht a b a' b' x y)
  obtain ⟨rfl, rfl⟩ := Prod.mk.inj e
  obtain ⟨p1, p2, p3⟩ := rw_snoc z u c
  obtain ⟨q1, q2, q3⟩ := rw_snoc z v c
  have ex := x.row
  have ey := y.row
  unfold fL
  rw [← ex, ← ey]
  exact ⟨z.length, c, fun j hj => by rw [p1 j hj, q1 j hj], hc, by rw [p2, q2]; exact huv, by rw [p2]; exact huc, by rw [q2]; exact hvc, p3, q3⟩
theorem mk_one (l : LsT) (n : Nat) : mkF [l] n = P (fL l) n := (mkF_is (by simp) (fun y hy => by simp at hy; omega)).symm
theorem mk_two (l m : LsT) (n : Nat) : mkF [l, m] n = max (P (fL l) n) (P (fL m) n) := by
  refine (mkF_is ?_ fun y hy => ?_).symm
  · simp only [List.map_cons, List.map_nil, List.mem_cons, List.not_mem_nil, or_false]
    omega
  · simp only [List.map_cons, List.map_nil, List.mem_cons, List.not_mem_nil, or_false] at hy
    omega
theorem near_bar {Ls : List LsT} (ok : LsOk Ls) (gB : GoodB Ls) {l : LsT} (hl : l ∈ Ls) (n : Nat) : mkF Ls n = P (fL l) n ∨ mkF Ls n = P (fL l) n + 1 := by
  rcases gB with ⟨k, rfl, _⟩ | ⟨k, m, rfl, ht⟩
  · rw [List.mem_singleton.mp hl, mk_one]; exact .inl rfl
  · have o1 := ok k (by simp)
    have o2 := ok m (by simp)
    obtain ⟨i, c, h1, h2, h3, h4, h5, h6, h7⟩ := pair_rows o1.2.2.2.2 o2.2.2.2.2 ht
    have := (twins_near (fL_fa o1) (fL_fa o2) h1 h2 h3 h4 h5 h6 h7 n).1
    unfold dst ab at this
    rw [mk_two]
    simp only [List.mem_cons, List.not_mem_nil, or_false] at hl
    rcases hl with rfl | rfl
    · split at this <;> omega
    · split at this <;> omega
theorem nu_near {p m : Int} (h : m = p ∨ m = p + 1) : ab ((nu p).1 - m) ≤ 1 ∧ ab ((nu p).2 - m) ≤ 1 := by
  unfold nu ab
  split <;> constructor <;> split <;> omega
theorem sent_near {x m : Int} (h : ab (x - m) ≤ 1) : sentO (some x) m = some x := if_neg (by rw [show ended (some x) m = false from decide_eq_false (by omega)]; exact Bool.false_ne_true)
theorem row_bar {M : Nat → Int} {f : Nat → Nat} (h : ∀ n, M n = P f n ∨ M n = P f n + 1) (wf : ∀ i, Fa (f i)) : ∀ n, rowF M f n = (some (nu (P f n)).1, some (nu (P f n)).2)
  | 0 => rfl
  | n + 1 => by
    obtain ⟨h1, h2⟩ := nu_near (h n)
    have e := hst_nu (P f n) (wf n)
    rw [← P_succ] at e
    simp only [rowF]
    rw [row_bar h wf n]
    simp only [sent_near h1, sent_near h2]
    rw [← e]
    unfold hst
    by_cases c1 : f n = 115
    · rw [if_pos c1, if_pos c1, if_neg (by omega), if_neg (by omega)]; rfl
    · rw [if_neg c1, if_neg c1]
      by_cases c2 : f n = 102
      · rw [if_pos c2, if_pos c2]; rfl
      · rw [if_neg c2, if_neg c2]; rfl
end Tf

set_option Elab.async false
set_option linter.all false
set_option maxRecDepth 100000
set_option maxHeartbeats 2000000
/-! zip of three tuples; dicts whose keys are tuples of whole numbers, texts and None -/
namespace Tf
open PySem PySem.Spec PyProof.Rows L2
/-! ### zip(t, u, v) -/
def ItZ3 (K : PySem.W.Frag) (a b c : Addr) : It where
  go i H := ∃ (xs ys zs : List V) (x y z : V), SqT K H a xs ∧ SqT K H b ys ∧ SqT K H c zs ∧ xs[i]? = some x ∧ ys[i]? = some y ∧ zs[i]? = some z
  yld i H v H' := ∃ T x y z, v = .ref T ∧ H T = none ∧ H' = upd H T (.tup [x, y, z]) ∧ (∀ xs, SqT K H a xs → xs[i]? = some x) ∧ (∀ ys, SqT K H b ys → ys[i]? = some y) ∧ ∀ zs, SqT K H c zs → zs[i]? = some z
  stop i H := ∃ xs ys zs : List V, SqT K H a xs ∧ SqT K H b ys ∧ SqT K H c zs ∧ i = min (min xs.length ys.length) zs.length
abbrev Zip3 (a b c z TI TO i1 i2 i3 : Addr) (i : Nat) (h : Heap) : Prop := IsZip h z TI TO .none ∧ IsTupOf3 h TI (.ref i1) (.ref i2) (.ref i3) ∧ (∃ a1 a2 a3, IsTupOf3 h TO a1 a2 a3) ∧ h.IsTupleIter i1 a i ∧ h.IsTupleIter i2 b i ∧ h.IsTupleIter i3 c i
theorem sepN3 (N a b c : Nat) (ha : a < N) (hb : b < N) (hc : c < N) : ZipSep3 (N + 5) (N + 3) (N + 4) N (N + 1) (N + 2) [N, a] [N + 1, b] [N + 2, c] := by
  have h1 : ∀ {i j : Nat}, i ≠ j → N + i ≠ N + j := fun h q => h (Nat.add_left_cancel q)
  exact ⟨h1 (by decide), h1 (by decide), h1 (by decide), h1 (j := 0) (by decide), by simp, nm2 (by omega) (by omega), nm2 (by omega) (by omega), h1 (by decide), by simp, nm2 (by omega) (by omega), nm2 (by omega) (by omega), h1 (by decide), by simp, nm2 (by omega) (by omega), nm2 (by omega) (by omega), nm2 (by omega) (by omega), nm2 (by omega) (by omega), nm2 (by omega) (by omega), nm2 (by omega) (by omega), nm2 (by omega) (by omega), nm2 (by omega) (by omega)⟩
theorem turn_zip3 {P : Program} {w : World} {K : PySem.W.Frag} {elts : List Expr} {kk : Nat} {tpos : Pos} (a b c z TI TO i1 i2 i3 : Addr) (Z : ZipSep3 z TI TO i1 i2 i3 [i1, a] [i2, b] [i3, c]) (na : a ≠ i1) (nb : b ≠ i2) (nc : c ≠ i3) :
    Turn P w K (.Tuple elts kk tpos) (ItZ3 K a b c) [z, TI, TO, i1, i2, i3] z (Zip3 a b c z TI TO i1 i2 i3) where
  mem := by simp
  obj := fun i h ⟨h1, h2, ⟨_, _, _, h3⟩, ⟨_, h4, _, h5⟩, ⟨_, h6, _, h7⟩, ⟨_, h8, _, h9⟩⟩ b hb => by
    simp only [List.mem_cons, List.not_mem_nil, or_false] at hb
    rcases hb with rfl | rfl | rfl | rfl | rfl | rfl
    · exact ⟨_, h1, fun v z => by cases z⟩
    · exact ⟨_, h2, fun v z => by cases z⟩
    · exact ⟨_, h3, fun v z => by cases z⟩
    · exact ⟨_, h4, fun v z => by rw [h5] at z; cases z⟩
    · exact ⟨_, h6, fun v z => by rw [h7] at z; cases z⟩
    · exact ⟨_, h8, fun v z => by rw [h9] at z; cases z⟩
  keep := fun i h h' ⟨h1, h2, ⟨_, _, _, h3⟩, ⟨_, h4, h5⟩, ⟨_, h6, h7⟩, ⟨_, h8, h9⟩⟩ hk => ⟨hk _ (by simp) _ h1, hk _ (by simp) _ h2, ⟨_, _, _, hk _ (by simp) _ h3⟩, ⟨_, hk _ (by simp) _ h4, h5⟩, ⟨_, hk _ (by simp) _ h6, h7⟩, ⟨_, hk _ (by simp) _ h8, h9⟩⟩
  item := fun X hP hw hK hc i pins s σ H E I hf ht hg => by
    subst hP hw hK
    obtain ⟨h1, h2, h3, h4, h5, h6⟩ := ht
    obtain ⟨xs, ys, zs, x, y, zz, hx, hy, hz, hxi, hyi, hzi⟩ := hg
    obtain ⟨its, r, hl, _⟩ := I.tuple hx
    obtain ⟨its2, r2, hl2, _⟩ := I.tuple hy
    obtain ⟨its3, r3, hl3, _⟩ := I.tuple hz
    have G := GoesN.zip3 (prog := X.prog) (w := X.w) (A := X.A) (elts := elts) (x1 := kk) (pos := tpos) Z (Draws.tuple (A := X.A.in1) (I.ok.hd hc) i1 a na its.toArray) (Draws.tuple (A := X.A.in1) (I.ok.hd hc) i2 b nb its2.toArray) (Draws.tuple (A := X.A.in1) (I.ok.hd hc) i3 c nc its3.toArray)
    have hl1' : i < its.toArray.size := by
      rw [List.size_toArray, ← r.length]
      exact (List.getElem?_eq_some_iff.mp hxi).1
    have hl2' : i < its2.toArray.size := by
      rw [List.size_toArray, ← r2.length]
      exact (List.getElem?_eq_some_iff.mp hyi).1
    have hl3' : i < its3.toArray.size := by
      rw [List.size_toArray, ← r3.length]
      exact (List.getElem?_eq_some_iff.mp hzi).1
    refine G.goes i s _ E (by omega) ⟨h1, h2, h3, ⟨h4, hl⟩, ⟨h5, hl2⟩, ⟨h6, hl3⟩⟩ fun v h' tk hY hS hk htk => ?_
    obtain ⟨T, u, v2, w2, rfl, hT, hu, hv2, hw2, hI⟩ := hY
    have hfree : H T = none := I.hok.fresh hT
    obtain ⟨u3, e3, q3⟩ := r.get hxi
    obtain ⟨v3, e4, q4⟩ := r2.get hyi
    obtain ⟨w3, e5, q5⟩ := r3.get hzi
    have f3 : its.toArray[i]? = some u3 := by rw [List.getElem?_toArray]; exact e3
    have f4 : its2.toArray[i]? = some v3 := by rw [List.getElem?_toArray]; exact e4
    have f5 : its3.toArray[i]? = some w3 := by rw [List.getElem?_toArray]; exact e5
    obtain rfl : u = u3 := Option.some.inj (hu.symm.trans f3)
    obtain rfl : v2 = v3 := Option.some.inj (hv2.symm.trans f4)
    obtain rfl : w2 = w3 := Option.some.inj (hw2.symm.trans f5)
    refine ⟨.ref T, upd H T (.tup [x, y, zz]), ?_, rfl, ⟨T, x, y, zz, rfl, hfree, rfl, fun l hl => ?_, fun l hl => ?_, fun l hl => ?_⟩, ⟨hS.1, hS.2.1, hS.2.2.1, hS.2.2.2.1.1, hS.2.2.2.2.1.1, hS.2.2.2.2.2.1⟩, fun b hb => ?_⟩
    · refine I.turnedNew (ch := [z, TO, i1, i2, i3]) hk (fun b hb => hf b (by simp only [List.mem_cons, List.not_mem_nil, or_false] at hb ⊢; rcases hb with q | q | q | q | q <;> simp [q])) hT ?_
      exact ⟨by simp [sizeLine], _, .cons q3 (.cons q4 (.cons q5 .nil)), hI⟩
    · rw [I.tuple_inj hl hx]; exact hxi
    · rw [I.tuple_inj hl hy]; exact hyi
    · rw [I.tuple_inj hl hz]; exact hzi
    · have hb2 : b < s.heap.objs.size := by
        obtain ⟨_, _, _, h3⟩ := h3
        obtain ⟨_, h4, _⟩ := h4
        obtain ⟨_, h5, _⟩ := h5
        obtain ⟨_, h6, _⟩ := h6
        simp only [List.mem_cons, List.not_mem_nil, or_false] at hb
        rcases hb with rfl | rfl | rfl | rfl | rfl | rfl
        · exact Heap.lt_size h1
        · exact Heap.lt_size h2
        · exact Heap.lt_size h3
        · exact Heap.lt_size h4
        · exact Heap.lt_size h5
        · exact Heap.lt_size h6
      rw [upd_ne (Nat.ne_of_lt (Nat.lt_of_lt_of_le hb2 hT))]
      exact (hf b hb).1
  done := fun X hP hw hK hc i pins s σ H E I hf ht hs => by
    subst hP hw hK
    obtain ⟨h1, h2, h3, h4, h5, h6⟩ := ht
    obtain ⟨xs, ys, zs, hx, hy, hz, e⟩ := hs
    obtain ⟨its, r, hl, _⟩ := I.tuple hx
    obtain ⟨its2, r2, hl2, _⟩ := I.tuple hy
    obtain ⟨its3, r3, hl3, _⟩ := I.tuple hz
    have G := GoesN.zip3 (prog := X.prog) (w := X.w) (A := X.A) (elts := elts) (x1 := kk) (pos := tpos) Z (Draws.tuple (A := X.A.in1) (I.ok.hd hc) i1 a na its.toArray) (Draws.tuple (A := X.A.in1) (I.ok.hd hc) i2 b nb its2.toArray) (Draws.tuple (A := X.A.in1) (I.ok.hd hc) i3 c nc its3.toArray)
    have e1 : its.toArray.size = xs.length := by rw [List.size_toArray, r.length]
    have e2 : its2.toArray.size = ys.length := by rw [List.size_toArray, r2.length]
    have e3 : its3.toArray.size = zs.length := by rw [List.size_toArray, r3.length]
    have e4 : i = min (min its.toArray.size its2.toArray.size) its3.toArray.size := by rw [e1, e2, e3]; exact e
    subst e4
    exact G.stops s _ E ⟨h1, h2, h3, ⟨h4, hl⟩, ⟨h5, hl2⟩, ⟨h6, hl3⟩⟩ fun h' tk hk htk => I.turnedL hk (fun b hb => hf b (by simp only [List.mem_cons, List.not_mem_nil, or_false] at hb ⊢; rcases hb with q | q | q | q | q <;> simp [q]))
  self := fun A i s Q E ht q => wpAny_pyIter_zip ht.1 q
def iZip3 (K : PySem.W.Frag) (ta : TA) : TI := fun σ H R => ta σ H fun vs H1 => ∃ a b c xs ys zs, vs = [.ref a, .ref b, .ref c] ∧ SqT K H1 a xs ∧ SqT K H1 b ys ∧ SqT K H1 c zs ∧ R (ItZ3 K a b c) H1
theorem pi_zip3 {X : Cx} {e e2 e3 : Expr} {ta : TA} {p pos tpos : Pos} {elts : List Expr} {kk : Nat} (hg : Gl X "zip") (hm : X.mg "zip" = none) (ha : PA X [e, e2, e3] ta)
    (hpl : ((backTo pos (starEach [e, e2, e3] X.env)).any (·.1)) = false := by rfl) :
    PI X (.Tuple elts kk tpos) (.Call (.Name "zip" p) [e, e2, e3] [] pos) (iZip3 X.K ta) := by
  refine ⟨fun pins s σ H R I h => ?_⟩
  refine wpAny_Call_NameR (ld_blt (u := .type "zip") I hg hm (by rfl) ?_)
  refine PyProof.Rows.callWith_type hpl (L2.FK.evalArgs_any hpl ?_)
  refine thn (ha.run pos pins s σ H _ I h) fun us s2 ⟨vs, H2, I2, r1, a, b, c, xs, ys, zs, ev, hx, hy, hz, q⟩ => ?_
  subst ev
  obtain ⟨u, u2, u3, rfl, ru, ru2, ru3⟩ : ∃ u u2 u3, us = [u, u2, u3] ∧ RelV (.ref a) u ∧ RelV (.ref b) u2 ∧ RelV (.ref c) u3 := by
    cases r1 with
    | cons q1 t1 => cases t1 with
      | cons q2 t2 => cases t2 with
        | cons q3 t3 => cases t3; exact ⟨_, _, _, rfl, q1, q2, q3⟩
  obtain rfl : u = .ref a := ru
  obtain rfl : u2 = .ref b := ru2
  obtain rfl : u3 = .ref c := ru3
  obtain ⟨its, r, hl, _⟩ := I2.tuple hx
  obtain ⟨its2, r2, hl2, _⟩ := I2.tuple hy
  obtain ⟨its3, r3, hl3, _⟩ := I2.tuple hz
  have la : a < s2.heap.objs.size := by obtain ⟨o, ho, _⟩ := id hl; exact Heap.lt_size ho
  have lb : b < s2.heap.objs.size := by obtain ⟨o, ho, _⟩ := id hl2; exact Heap.lt_size ho
  have lc : c < s2.heap.objs.size := by obtain ⟨o, ho, _⟩ := id hl3; exact Heap.lt_size ho
  refine zip_begins3 (begins_tuple a its.toArray) (begins_tuple b its2.toArray) (begins_tuple c its3.toArray) hl hl2 hl3 fun h' h1 h2 h3 h4 h5 h6 hsz hk2 => ?_
  refine wpAny_pyIter_zip h1 ?_
  have Hf : ∀ b, s2.heap.objs.size ≤ b → H2 b = none := fun b hb => I2.hok.fresh hb
  refine ⟨_, _, _, _, H2, rfl, I2.kept (t' := s2.toks) hk2, turn_zip3 a b c _ _ _ _ _ _ (sepN3 s2.heap.objs.size a b c la lb lc) (Nat.ne_of_lt la) (Nat.ne_of_lt (Nat.lt_succ_of_lt lb)) (Nat.ne_of_lt (Nat.lt_succ_of_lt (Nat.lt_succ_of_lt lc))), ⟨h1, h2, ⟨_, _, _, h3⟩, ⟨_, h4, rfl, rfl⟩, ⟨_, h5, rfl, rfl⟩, ⟨_, h6, rfl, rfl⟩⟩, fun b hb => ?_, q⟩
  simp only [List.mem_cons, List.not_mem_nil, or_false] at hb
  rcases hb with rfl | rfl | rfl | rfl | rfl | rfl <;> exact I2.fpOk (by first | exact Nat.le_add_right _ _ | exact Nat.le_refl _) (Hf _ (by first | exact Nat.le_add_right _ _ | exact Nat.le_refl _))
theorem r_iZip3 {K : PySem.W.Frag} {ta : TA} {σ : L2.St} {H : Hp} {R : It → Hp → Prop} (h : ta σ H fun vs H1 => ∃ a b c xs ys zs, vs = [.ref a, .ref b, .ref c] ∧ SqT K H1 a xs ∧ SqT K H1 b ys ∧ SqT K H1 c zs ∧ R (ItZ3 K a b c) H1) : iZip3 K ta σ H R := h

/-! ### dicts whose keys are tuples of leaves -/
def lV : Leaf → V
  | .none => .non
  | .num i => .int i
  | .text x => .str x
abbrev Kvs := List (List Leaf × Addr × V)
abbrev PL : Kvs → List (List Leaf × Addr × Value) → Prop := Paired fun p q => p.1 = q.1 ∧ p.2.1 = q.2.1 ∧ RelV p.2.2 q.2.2
def DLo (P : Program) (w : World) (d : Addr) (xs : Kvs) : HO := .ext fun h => (d == sysModules) = false ∧ xs.length ≤ sizeLine ∧ ∃ ys, PL xs ys ∧ ∃ o es ep, h.get? d = some o ∧ o.ExactDict ∧ o.data = .dict es ep ∧ es.toList = ys.map (entryOfKey (tupleKind (leafKind P w))) ∧ (ys.map (·.1)).Nodup
/-- the dict at d, and its keys -/
structure DL (P : Program) (w : World) (H : Hp) (d : Addr) (xs : Kvs) : Prop where
  at_ : H d = some (DLo P w d xs)
  keys : ∀ x ∈ xs, H x.2.1 = some (.tup (x.1.map lV))
theorem DL.same {P : Program} {w : World} {H H' : Hp} {d : Addr} {xs : Kvs} (h : DL P w H d xs) (e : Same H H') : DL P w H' d xs := ⟨e _ _ h.at_, fun x hx => e _ _ (h.keys x hx)⟩
def valL (xs : Kvs) (k : List Leaf) : Option V := (xs.find? fun x => decide (x.1 = k)).map (·.2.2)
theorem leaf_is : ∀ {k : Leaf} {v : Value}, RelV (lV k) v → Leaf.isOf k v = true
  | .none, v, r => by obtain rfl : v = Value.none := r; rfl
  | .num i, v, r => by obtain ⟨t, rfl⟩ := r; exact decide_eq_true rfl
  | .text x, v, r => by
    obtain ⟨t, rfl⟩ := r
    show Value.isStrOf x (.str x t) = true
    simp [Value.isStrOf]
theorem leaves_are {P : Program} {w : World} : ∀ {ks : List Leaf} {its : List Value}, Vals (ks.map lV) its → ItemsAre (leafKind P w) ks its
  | [], [], _ => .nil
  | k :: ks, v :: its, .cons h t => .cons (leaf_is h) (leaves_are t)
theorem lkey_of {P : Program} {w : World} {H : Hp} {h : Heap} {a : Addr} {ks : List Leaf} (ok : HOk P w H h) (e : H a = some (.tup (ks.map lV))) : (tupleKind (leafKind P w)).is h ks a := by
  obtain ⟨_, its, r, o, h1, h2, n, h3⟩ := (show ObjOk P w H h a (.tup (ks.map lV)) from ok a _ e)
  exact ⟨o, its.toArray, n, h1, h2, h3, by simpa using leaves_are r⟩
theorem dl_of {P : Program} {w : World} {H : Hp} {h : Heap} {d : Addr} {xs : Kvs} (ok : HOk P w H h) (D : DL P w H d xs) : (d == sysModules) = false ∧ xs.length ≤ sizeLine ∧ ∃ ys, PL xs ys ∧ h.DictOfH (tupleKind (leafKind P w)) d ys := by
  obtain ⟨⟨hd, hz, ys, r, o, es, ep, h1, h2, h3, h4, h5⟩, _⟩ := (show ObjOk P w H h d (DLo P w d xs) from ok d _ D.at_)
  refine ⟨hd, hz, ys, r, o, es, ep, h1, h2, h3, h4, fun y hy => ?_, h5⟩
  have all : ∀ {l : Kvs} {m : List (List Leaf × Addr × Value)}, PL l m → (∀ x ∈ l, H x.2.1 = some (.tup (x.1.map lV))) → ∀ y ∈ m, (tupleKind (leafKind P w)).is h y.1 y.2.1 := by
    intro l m q
    induction q with
    | nil => intro _ y hy; exact nomatch hy
    | @cons p q ps qs hq t ih =>
      intro hk y hy
      rcases List.mem_cons.mp hy with e | hy
      · subst e
        rw [← hq.1, ← hq.2.1]
        exact lkey_of ok (hk p List.mem_cons_self)
      · exact ih (fun x hx => hk x (List.mem_cons_of_mem _ hx)) y hy
  exact all r D.keys y hy
theorem PL.val : ∀ {xs : Kvs} {ys : List (List Leaf × Addr × Value)}, PL xs ys → ∀ k, RelO (valL xs k) ((atKey ys k).map (·.2))
  | _, _, .nil, k => trivial
  | _, _, @Paired.cons _ _ _ p q ps qs h t, k => by
    by_cases e : p.1 = k
    · have e' : q.1 = k := h.1 ▸ e
      simp only [valL, atKey, List.find?_cons, e, e', decide_true, Option.map_some]
      exact h.2.2
    · have e' : ¬ q.1 = k := h.1 ▸ e
      have ih := PL.val t k
      simp only [valL, atKey, List.find?_cons, e, e', decide_false] at ih ⊢
      exact ih
theorem relO_isSome {o : Option V} {r : Option Value} (h : RelO o r) : o.isSome = r.isSome := by
  cases o <;> cases r <;> first | rfl | exact h.elim
section
variable {X : Cx} {a b : Addr} {k : List Leaf} {xs : Kvs} {H : Hp} {pins : List (Addr × Obj)} {σ : L2.St} {s : Shared} {A : Around} {E : Value → Shared → Prop}
theorem dl_empty {P : Program} {w : World} {H : Hp} (h : Heap) (hb : sysModules < h.objs.size) : ObjOk P w H (h.push { cls := .type "dict", data := .dict #[] }) h.objs.size (DLo P w h.objs.size []) := by
  refine ⟨⟨beq_eq_false_iff_ne.mpr (Ne.symm (Nat.ne_of_lt hb)), Nat.zero_le _, [], .nil, _, #[], 0, Heap.get?_push_size _ rfl, ⟨rfl, rfl, rfl⟩, rfl, rfl, List.nodup_nil⟩, ⟨_, Heap.get?_push_size _ rfl⟩, fun h1 h2 hh k => ?_⟩
  obtain ⟨q1, q2, ys, r, o, es, ep, g1, g⟩ := hh
  exact ⟨q1, q2, ys, r, o, es, ep, k _ g1, g⟩
theorem dl_ok {P : Program} {w : World} {H : Hp} {h : Heap} {d : Addr} {xs : Kvs} {ys : List (List Leaf × Addr × Value)} (hd : (d == sysModules) = false) (hz : xs.length ≤ sizeLine) (r : PL xs ys) (D : h.DictOfH (tupleKind (leafKind P w)) d ys) : ObjOk P w H h d (DLo P w d xs) := by
  obtain ⟨o, es, ep, h1, h2, h3, h4, _, h5⟩ := D
  refine ⟨⟨hd, hz, ys, r, o, es, ep, h1, h2, h3, h4, h5⟩, ⟨o, h1⟩, fun h1 h2 hh k => ?_⟩
  obtain ⟨q1, q2, ys, r, o, es, ep, g1, g⟩ := hh
  exact ⟨q1, q2, ys, r, o, es, ep, k _ g1, g⟩
def tDNewL (P : Program) (w : World) : TE := fun _ H Q => ∀ p, H p = none → Q (.ref p) (upd H p (DLo P w p []))
theorem pe_dnewL {pos : Pos} : PE X (.Dict [] [] pos) (tDNewL X.prog X.w) := ⟨fun pins s σ H Q I h =>
  wpAny_Dict_empty ⟨.ref s.heap.objs.size, _, I.laid (a := s.heap.objs.size) (o := DLo X.prog X.w s.heap.objs.size []) (t' := s.toks) (fun _ _ q => Heap.get?_push_of_some _ q) (Nat.le_refl _) (dl_empty s.heap I.big), rfl, h _ (I.hok.fresh (Nat.le_refl _))⟩⟩
/-- k not in d -/
def rNotInL (P : Program) (w : World) : R2 := fun x y H Q => ∃ a b xs k, x = .ref b ∧ y = .ref a ∧ DL P w H a xs ∧ H b = some (.tup (k.map lV)) ∧ Q (.bl (!(valL xs k).isSome)) H
theorem op_notInL (hu : X.A.units + 1 < cLine) : OpR X (compareOp .NotIn) (rNotInL X.prog X.w) := by
  intro pins s σ H x y v u Q I rx ry h
  obtain ⟨a, b, xs, k, rfl, rfl, D, hb, q⟩ := h
  obtain rfl : v = .ref b := rx
  obtain rfl : u = .ref a := ry
  obtain ⟨hd, hz, ys, r, dd⟩ := dl_of I.hok D
  refine wpAny_notIn_heap (tupleKind_room_in1 hu) (lkey_of I.hok hb) hd dd ?_
  have e := relO_isSome (r.val k)
  rw [Option.isSome_map] at e
  rw [← e]
  exact ⟨.bl _, H, I.tok _, rfl, q⟩
/-- d[k] -/
def rIxDL (P : Program) (w : World) : R2 := fun x y H Q => ∃ a b xs k v, x = .ref a ∧ y = .ref b ∧ DL P w H a xs ∧ H b = some (.tup (k.map lV)) ∧ valL xs k = some v ∧ Q v H
theorem ix_dl (hu : X.A.units + 1 < cLine) {o i : Expr} {to ti : TE} {pos : Pos} (ho : PE X o to) (hi : PE X i ti) (hs : NoSl i) : PE X (.Subscript o i pos) (tOp (rIxDL X.prog X.w) to ti) := by
  refine ⟨fun pins s σ H Q I h => ?_⟩
  refine subD_of PySem.F.slot_dict_getitem.lookup hs (thn (ho.run pins s σ H _ I h) fun u s1 ⟨x, H1, I1, rx, q1⟩ => thn (hi.run pins s1 σ H1 _ I1 q1) fun iv s2 ⟨y, H2, I2, ry, q2⟩ => ?_)
  obtain ⟨a, b, xs, k, v, rfl, rfl, D, hb, hv, q⟩ := q2
  obtain rfl : u = .ref a := rx
  obtain rfl : iv = .ref b := ry
  obtain ⟨hd, hz, ys, r, dd⟩ := dl_of I2.hok D
  refine ⟨dd.typeIs, ?_⟩
  have e := r.val k
  rw [hv] at e
  obtain ⟨w', hw, rw'⟩ := RelO.some_of e
  obtain ⟨p, hp, rfl⟩ := Option.map_eq_some_iff.mp hw
  exact wpAny_getItem_heap (tupleKind_room_in1 hu) (lkey_of I2.hok hb) dd hp ⟨v, H2, I2.tok _, rw', q⟩
/-- d[k] = v, k new -/
def sDPutL (P : Program) (w : World) (td ty tv : TE) : TS := fun D σ H => tv σ H fun v H1 => td σ H1 fun x H2 => ty σ H2 fun y H3 => ∃ a b xs k, x = .ref a ∧ y = .ref b ∧ DL P w H3 a xs ∧ H3 b = some (.tup (k.map lV)) ∧ valL xs k = none ∧ xs.length < sizeLine ∧ D.nx σ (upd H3 a (DLo P w a (xs ++ [(k, b, v)])))
theorem PL.snoc : ∀ {xs : Kvs} {ys : List (List Leaf × Addr × Value)} {p : List Leaf × Addr × V} {q : List Leaf × Addr × Value}, PL xs ys → (p.1 = q.1 ∧ p.2.1 = q.2.1 ∧ RelV p.2.2 q.2.2) → PL (xs ++ [p]) (ys ++ [q])
  | _, _, _, _, .nil, h => .cons h .nil
  | _, _, _, _, .cons h1 t, h => .cons h1 (PL.snoc t h)
theorem ps_dputL {o i value : Expr} {td ty tv : TE} {pos pos' : Pos} (hu : X.A.units + 1 < cLine) (ho : PE X o td) (hi : PE X i ty) (hv : PE X value tv) (hs : swapsWith value (some (.Subscript o i pos')) pos.line X.env = pure false) :
    PS X (.Assign [.Subscript o i pos'] value pos) (sDPutL X.prog X.w td ty tv) := by
  refine ⟨fun pins s σ H D I h => ?_⟩
  refine wpAny_Assign_Subscript (thn (hv.run pins s σ H _ I h) fun r s1 ⟨v, H1, I1, rv, q1⟩ => thn (ho.run pins s1 σ H1 _ I1 q1) fun u s2 ⟨x, H2, I2, rx, q2⟩ => thn (hi.run pins s2 σ H2 _ I2 q2) fun iv s3 ⟨y, H3, I3, ry, q3⟩ => ?_) hs
  obtain ⟨a, b, xs, k, rfl, rfl, DD, hb, hn, hl, q⟩ := q3
  obtain rfl : u = Value.ref a := rx
  obtain rfl : iv = Value.ref b := ry
  obtain ⟨hd, hz, ys, rel, dd⟩ := dl_of I3.hok DD
  have hlen : ys.length = xs.length := (Paired.length rel).symm
  have e0 : atKey ys k = none := by
    have := relO_isSome (rel.val k)
    rw [hn, Option.isSome_map] at this
    cases h : atKey ys k with
    | none => rfl
    | some p => rw [h] at this; cases this
  refine wpAny_setItem_heap (hsz := by omega) (tupleKind_room_in1 hu) (lkey_of I3.hok hb) dd fun h' dd' hs => ?_
  rw [storedH_new e0] at dd'
  have he : ∃ q, h'.get? a = some q := let ⟨q, _, _, hq, _⟩ := dd'; ⟨q, hq⟩
  refine ⟨σ, _, d_write I3 (by rw [DD.at_]; exact True.intro) hs he (dl_ok hd (by rw [List.length_append]; show xs.length + 1 ≤ sizeLine; omega) (PL.snoc (p := (k, b, v)) rel ⟨rfl, rfl, rv⟩) dd'), q⟩
/-- len(d) -/
def rLenL (P : Program) (w : World) : List V → Hp → VK → Prop := fun vs H Q => ∃ a xs, vs = [.ref a] ∧ DL P w H a xs ∧ Q (.int ((xs.length : Nat) : Int)) H
theorem cr_lenL : CallR X (.builtin "len") (rLenL X.prog X.w) := by
  intro pins s σ H vs us Q I r h
  obtain ⟨a, xs, rfl, D, q⟩ := h
  obtain ⟨u, rfl, rx⟩ := vals1 r
  obtain rfl : u = .ref a := rx
  obtain ⟨hd, hz, ys, rel, dd⟩ := dl_of I.hok D
  have hl : xs.length = ys.length := Paired.length rel
  refine call_len_dictH hd dd (by rw [← hl]; rw [sizeLine_eq] at hz; omega) ?_
  rw [← hl]
  exact ⟨.int ((xs.length : Nat) : Int), H, I.tok _, ⟨_, rfl⟩, q⟩
end
section
variable {P : Program} {w : World} {td ty tv : TE} {D : Ends} {σ : L2.St} {H : Hp} {Q : VK}
theorem r_dputL (h : tv σ H fun v H1 => td σ H1 fun x H2 => ty σ H2 fun y H3 => ∃ a b xs k, x = .ref a ∧ y = .ref b ∧ DL P w H3 a xs ∧ H3 b = some (.tup (k.map lV)) ∧ valL xs k = none ∧ xs.length < sizeLine ∧ D.nx σ (upd H3 a (DLo P w a (xs ++ [(k, b, v)])))) : sDPutL P w td ty tv D σ H := h
end
theorem DL.put {P : Program} {w : World} {H : Hp} {d b : Addr} {xs : Kvs} {k : List Leaf} {v : V} (h : DL P w H d xs) (hb : H b = some (.tup (k.map lV))) : DL P w (upd H d (DLo P w d (xs ++ [(k, b, v)]))) d (xs ++ [(k, b, v)]) := by
  refine ⟨upd_same, fun x hx => ?_⟩
  have ne : ∀ {c : Addr} {ys : List V}, H c = some (.tup ys) → c ≠ d := fun {c ys} e => ne_of e h.at_ (fun z => by cases z)
  rcases List.mem_append.mp hx with h1 | h1
  · rw [upd_ne (ne (h.keys x h1))]; exact h.keys x h1
  · rw [List.mem_singleton.mp h1, upd_ne (ne hb)]; exact hb
end Tf

set_option Elab.async false
set_option linter.all false
set_option maxRecDepth 100000
set_option maxHeartbeats 4000000
/-! enumerate over a tuple -/
namespace Tf
open PySem PySem.Spec PyProof.Rows L2
theorem meets_enum1 {v : Value} {o : Obj} {H : Heap → Prop} (B : Begins v o H) :
    Meets (Builtin.«enumerate.__new__» ⟨[.type "enumerate", v], []⟩) (fun _ R s => H s.heap ∧
      R (.ok (.ret (.ref (s.heap.push o).objs.size))) { s with heap := (s.heap.push o).push { cls := .type "enumerate", data := .fields #[.none, .bool false, .ref s.heap.objs.size, rawInt 0, .none, .none] } }) :=
  .of_wp fun prog w A R s h => by
    obtain ⟨hp, g, d, tk, os⟩ := s; obtain ⟨h1, h⟩ := h
    have hsub := sub_enumerate
    have q1 : ∀ {A' : Around} {E : Value → Shared → Prop} {Q : Value → Shared → Prop}, Q (.ref hp.objs.size) ⟨hp.push o, g, d, tk, os⟩ → wpAny (model prog w) A' (pyIter v) Q E ⟨hp, g, d, tk, os⟩ :=
      fun q => B.iter prog w _ _ ⟨hp, g, d, tk, os⟩ _ h1 q
    wp_walk using q1
    refine wpAny_stack_any fun st => wpAny_pure ?_
    split
    · rename_i c _ _ _ _ _
      cases (c == Value.type "enumerate")
      · wp_walk using q1
        exact ⟨_, rfl, h⟩
      · wp_walk using q1
        exact ⟨_, rfl, h⟩
    · wp_walk using q1
      exact ⟨_, rfl, h⟩
theorem enum_begins1 {prog : Program} {w : World} {A : Around} {E : Value → Shared → Prop} {s : Shared} {v : Value} {o : Obj} {H : Heap → Prop} {Q : Value → Shared → Prop} (B : Begins v o H) (h1 : H s.heap)
    (h : ∀ h', IsEnum h' (s.heap.objs.size + 1) s.heap.objs.size 0 .none → h'.get? s.heap.objs.size = some o → h'.objs.size = s.heap.objs.size + 2 →
      (∀ b o, s.heap.get? b = some o → h'.get? b = some o) → Q (.ref (s.heap.objs.size + 1)) { s with heap := h' }) :
    wpAny (model prog w) A (call (.type "enumerate") [v]) Q E s := by
  refine callType_new F.called_enumerate (by decide) (F.typeCall_enumerate_1 _) (F.newCall_enumerate_1 _) (fun obj => F.args_object_init_2 obj _) F.entry_enumerate_new
    (meets_enum1 B) ⟨h1, ?_⟩
  have hz : (s.heap.push o).objs.size = s.heap.objs.size + 1 := Heap.size_push ..
  show _ ∧ _
  rw [hz]
  have he : IsEnum ((s.heap.push o).push { cls := .type "enumerate", data := .fields #[.none, .bool false, .ref s.heap.objs.size, rawInt 0, .none, .none] }) (s.heap.objs.size + 1) s.heap.objs.size 0 .none := by
    have := Heap.get?_push_size (s.heap.push o) (o := { cls := .type "enumerate", data := .fields #[.none, .bool false, .ref s.heap.objs.size, rawInt 0, .none, .none] }) rfl
    rw [hz] at this; exact this
  refine ⟨⟨_, he, rfl⟩, h _ he (Heap.get?_push_of_some _ (Heap.get?_push_size _ B.free)) (by rw [Heap.size_push, hz]) fun b o x => Heap.get?_push_of_some _ (Heap.get?_push_of_some _ x)⟩
/-- the pairs (place, item) of the tuple at a -/
def ItEU (K : PySem.W.Frag) (a : Addr) : It where
  go i H := ∃ xs x, SqT K H a xs ∧ xs[i]? = some x
  yld i H v H' := ∃ T x, v = .ref T ∧ H T = none ∧ H' = upd H T (.tup [.int (i : Nat), x]) ∧ ∀ xs, SqT K H a xs → xs[i]? = some x
  stop i H := ∃ xs, SqT K H a xs ∧ i = xs.length
theorem turn_enumU {P : Program} {w : World} {K : PySem.W.Frag} {elts : List Expr} {kk : Nat} {tpos : Pos} (a e it : Addr) (ne : e ≠ it) (na : a ≠ it) (nea : e ≠ a) :
    Turn P w K (.Tuple elts kk tpos) (ItEU K a) [e, it] e (fun i h => (∃ old, IsEnum h e it ((i : Nat) : Int) old) ∧ h.IsTupleIter it a i) where
  mem := by simp
  obj := fun i h ⟨⟨old, h1⟩, ⟨o, h2, _, h3⟩⟩ b hb => by
    simp only [List.mem_cons, List.not_mem_nil, or_false] at hb
    rcases hb with rfl | rfl
    · exact ⟨_, h1, fun v z => by cases z⟩
    · exact ⟨_, h2, fun v z => by rw [h3] at z; cases z⟩
  keep := fun i h h' ⟨⟨old, h1⟩, ⟨o, h2, h3⟩⟩ hk => ⟨⟨old, hk _ (by simp) _ h1⟩, ⟨o, hk _ (by simp) _ h2, h3⟩⟩
  item := fun X hP hw hK hc i pins s σ H E I hf ht hg => by
    subst hP hw hK
    obtain ⟨h1, h2⟩ := ht
    obtain ⟨xs, x, hx, hxi⟩ := hg
    obtain ⟨its, r, hl, _⟩ := I.tuple hx
    have G := GoesN.enumFrom (prog := X.prog) (w := X.w) (A := X.A) (elts := elts) (x1 := kk) (pos := tpos) 0 (Draws.tuple (A := X.A.in1) (I.ok.hd hc) it a na its.toArray) e ne (by simpa using ⟨ne, nea⟩) (by simp)
    have hl1' : i < its.toArray.size := by
      rw [List.size_toArray, ← r.length]
      exact (List.getElem?_eq_some_iff.mp hxi).1
    refine G.goes i s _ E hl1' ⟨by simpa using h1, h2, hl⟩ fun v h' tk hY hS hk htk => ?_
    obtain ⟨T, t2, u, rfl, hT, hu, hI⟩ := hY
    have hfree : H T = none := I.hok.fresh hT
    obtain ⟨u3, e3, q3⟩ := r.get hxi
    have f3 : its.toArray[i]? = some u3 := by rw [List.getElem?_toArray]; exact e3
    obtain rfl : u = u3 := Option.some.inj (hu.symm.trans f3)
    refine ⟨.ref T, upd H T (.tup [.int (i : Nat), x]), ?_, rfl, ⟨T, x, rfl, hfree, rfl, fun l hl => ?_⟩, ⟨by simpa using hS.1, hS.2.1⟩, fun b hb => ?_⟩
    · refine I.turnedNew (ch := [e, it]) hk hf hT ?_
      exact ⟨by simp [sizeLine], _, .cons ⟨_, by simp; rfl⟩ (.cons q3 .nil), hI⟩
    · rw [I.tuple_inj hl hx]; exact hxi
    · have hb2 : b < s.heap.objs.size := by
        obtain ⟨old, h1⟩ := h1
        obtain ⟨_, h4, _⟩ := h2
        simp only [List.mem_cons, List.not_mem_nil, or_false] at hb
        rcases hb with rfl | rfl
        · exact Heap.lt_size h1
        · exact Heap.lt_size h4
      rw [upd_ne (Nat.ne_of_lt (Nat.lt_of_lt_of_le hb2 hT))]
      exact (hf b hb).1
  done := fun X hP hw hK hc i pins s σ H E I hf ht hs => by
    subst hP hw hK
    obtain ⟨h1, h2⟩ := ht
    obtain ⟨xs, hx, e0⟩ := hs
    obtain ⟨its, r, hl, _⟩ := I.tuple hx
    have G := GoesN.enumFrom (prog := X.prog) (w := X.w) (A := X.A) (elts := elts) (x1 := kk) (pos := tpos) 0 (Draws.tuple (A := X.A.in1) (I.ok.hd hc) it a na its.toArray) e ne (by simpa using ⟨ne, nea⟩) (by simp)
    have e1 : i = its.toArray.size := by rw [List.size_toArray, ← r.length]; exact e0
    subst e1
    exact G.stops s _ E ⟨by simpa using h1, h2, hl⟩ fun h' tk hk htk => I.turnedL hk hf
  self := fun A i s Q E ht q => by
    obtain ⟨⟨old, h1⟩, _⟩ := ht
    exact wpAny_pyIter_enum h1 q
def iEnumU (K : PySem.W.Frag) (ta : TA) : TI := fun σ H R => ta σ H fun vs H1 => ∃ a xs, vs = [.ref a] ∧ SqT K H1 a xs ∧ R (ItEU K a) H1
theorem pi_enumU {X : Cx} {e : Expr} {ta : TA} {p pos tpos : Pos} {elts : List Expr} {kk : Nat} (hg : Gl X "enumerate") (hm : X.mg "enumerate" = none) (ha : PA X [e] ta) (hs : starEach [e] X.env = [(false, eval e X.env)] := by rfl) :
    PI X (.Tuple elts kk tpos) (.Call (.Name "enumerate" p) [e] [] pos) (iEnumU X.K ta) := by
  refine ⟨fun pins s σ H R I h => ?_⟩
  refine Call_ (ld_blt I hg hm boot_enumerate (PyProof.Rows.callWith_type1 (thn (ha.run pos pins s σ H _ I h) fun us s1 ⟨vs, H1, I1, r1, q1⟩ => ?_) hs rfl))
  obtain ⟨a, xs, ex, hq, q⟩ := q1
  subst ex
  obtain ⟨u, rfl, ru⟩ := r1.one
  obtain rfl : u = .ref a := ru
  obtain ⟨its, r, hl, _⟩ := I1.tuple hq
  have la : a < s1.heap.objs.size := by obtain ⟨o, ho, _⟩ := id hl; exact Heap.lt_size ho
  refine enum_begins1 (begins_tuple a its.toArray) hl fun h' he hit hsz hk => wpAny_pyIter_enum he ?_
  have Hf : ∀ b, s1.heap.objs.size ≤ b → H1 b = none := fun b hb => I1.hok.fresh hb
  refine ⟨s1.heap.objs.size + 1, [s1.heap.objs.size + 1, s1.heap.objs.size], _, _, H1, rfl, I1.kept (t' := s1.toks) hk, turn_enumU a (s1.heap.objs.size + 1) s1.heap.objs.size (Nat.succ_ne_self _) (Nat.ne_of_lt la) (fun z => Nat.ne_of_lt (Nat.lt_succ_of_lt la) z.symm), ⟨⟨.none, he⟩, ⟨_, hit, rfl, rfl⟩⟩, fun b hb => ?_, q⟩
  simp only [List.mem_cons, List.not_mem_nil, or_false] at hb
  rcases hb with rfl | rfl <;> exact I1.fpOk (by omega) (Hf _ (by omega))
theorem r_iEnumU {K : PySem.W.Frag} {ta : TA} {σ : L2.St} {H : Hp} {R : It → Hp → Prop} (h : ta σ H fun vs H1 => ∃ a xs, vs = [.ref a] ∧ SqT K H1 a xs ∧ R (ItEU K a) H1) : iEnumU K ta σ H R := h
theorem enumU_go {K : PySem.W.Frag} {a : Addr} {xs : List V} {B0 : Hp} (h : SqT K B0 a xs) {n : Nat} (hn : n = xs.length) : (∀ i X, i < n → Same B0 X → (ItEU K a).go i X) ∧ ∀ X, Same B0 X → (ItEU K a).stop n X := by
  subst hn
  exact ⟨fun i X hi s => ⟨xs, xs[i], Same.sqt s h, List.getElem?_eq_getElem hi⟩, fun X s => ⟨xs, Same.sqt s h, rfl⟩⟩
end Tf

set_option Elab.async false
set_option linter.all false
set_option maxRecDepth 100000
set_option maxHeartbeats 2000000
/-! rounds: by each state the fewest fates that lead to some states -/
namespace Tf
open PySem PySem.Spec PyProof.Rows L2
/-- a dict with the whole numbers F -/
abbrev NN := List Nat × Nat
def nK (F : List NN) : List (Key × V) := F.map fun q => (.inr (S q.1), .int (q.2 : Int))
section
variable {F : List NN} {s : List Nat} {n : Nat}
theorem nK_keys (F : List NN) : (nK F).map (·.1) = (F.map (·.1)).map fun l => (Sum.inr (S l) : Key) := by unfold nK; rw [List.map_map, List.map_map]; rfl
theorem nK_nodup (nd : (F.map (·.1)).Nodup) : ((nK F).map (·.1)).Nodup := by
  rw [nK_keys]
  exact List.Pairwise.map _ (fun a b h z => h (keyS_inj z)) nd
theorem nK_not (hn : s ∉ F.map (·.1)) : valV (nK F) (.inr (S s)) = none := valV_not fun z => by
  rw [nK_keys] at z
  obtain ⟨a, ha, e⟩ := List.mem_map.mp z
  exact hn (keyS_inj e ▸ ha)
theorem nK_get (nd : (F.map (·.1)).Nodup) {q : NN} (h : q ∈ F) : valV (nK F) (.inr (S q.1)) = some (.int (q.2 : Int)) :=
  valV_mem (nK_nodup nd) (List.mem_map.mpr ⟨q, h, rfl⟩)
theorem nK_some (nd : (F.map (·.1)).Nodup) (s : List Nat) : (valV (nK F) (.inr (S s))).isSome = decide (s ∈ F.map (·.1)) := by
  by_cases h : s ∈ F.map (·.1)
  · obtain ⟨q, hq, rfl⟩ := List.mem_map.mp h
    rw [nK_get nd hq, decide_eq_true h]
    rfl
  · rw [nK_not h, decide_eq_false h]
    rfl
theorem nK_put (hn : s ∉ F.map (·.1)) : putK (nK F) (.inr (S s)) (.int (n : Int)) = nK (F ++ [(s, n)]) := by
  rw [putK_new]
  · unfold nK
    rw [List.map_append]
    rfl
  · intro z
    rw [nK_keys] at z
    obtain ⟨a, ha, e⟩ := List.mem_map.mp z
    exact hn (keyS_inj e ▸ ha)
theorem nK_len : (nK F).length = F.length := by unfold nK; rw [List.length_map]
end
/-- some word of so many fates leads from s to one of G -/
def NearG (rs : List Row3) (G : List Nat → Prop) (s : List Nat) (n : Nat) : Prop := ∃ wd, Wd wd ∧ wd.length = n ∧ G (runF rs s wd)
section
variable {rs : List Row3} {G : List Nat → Prop} {s : List Nat} {n k : Nat} {F : List NN}
theorem nearG_zero : NearG rs G s 0 ↔ G s := by
  constructor
  · rintro ⟨wd, _, h0, h⟩
    obtain rfl : wd = [] := List.length_eq_zero_iff.mp h0
    exact h
  · exact fun h => ⟨[], (fun _ h => nomatch h), rfl, h⟩
theorem nearG_succ : NearG rs G s (n + 1) ↔ ∃ c, Fa c ∧ NearG rs G (toF rs s c) n := by
  constructor
  · rintro ⟨wd, hw, h0, h⟩
    cases wd with
    | nil => simp at h0
    | cons c v => exact ⟨c, hw c (List.mem_cons_self ..), v, (fun x hx => hw x (List.mem_cons_of_mem _ hx)), by simpa using h0, h⟩
  · rintro ⟨c, hc, v, hv, h0, h⟩
    exact ⟨c :: v, (fun x hx => (List.mem_cons.mp hx).elim (fun z => z ▸ hc) (hv x)), by simp [h0], h⟩
structure FewL (rs : List Row3) (G : List Nat → Prop) (k : Nat) (F : List NN) : Prop where
  nd : (F.map (·.1)).Nodup
  m : ∀ q ∈ F, q.1 ∈ rs.map (·.nm) ∧ NearG rs G q.1 q.2 ∧ (∀ m, m < q.2 → ¬ NearG rs G q.1 m) ∧ q.2 ≤ k
  a : ∀ s ∈ rs.map (·.nm), ∀ n, n ≤ k → NearG rs G s n → s ∈ F.map (·.1)
  g : k ≤ F.length
structure Few (rs : List Row3) (G : List Nat → Prop) (F : List NN) : Prop where
  nd : (F.map (·.1)).Nodup
  m : ∀ q ∈ F, q.1 ∈ rs.map (·.nm) ∧ NearG rs G q.1 q.2 ∧ (∀ m, m < q.2 → ¬ NearG rs G q.1 m) ∧ q.2 ≤ rs.length
  a : ∀ s ∈ rs.map (·.nm), ∀ n, NearG rs G s n → s ∈ F.map (·.1)
/-- the states that are one fate farther -/
def nextF (rs : List Row3) (F : List NN) : List (List Nat) := (rs.map (·.nm)).filter fun s => decide (s ∉ F.map (·.1)) && ([110, 102, 115] : List Nat).any fun c => decide (toF rs s c ∈ F.map (·.1))
theorem mem_nextF : s ∈ nextF rs F ↔ s ∈ rs.map (·.nm) ∧ s ∉ F.map (·.1) ∧ ∃ c, Fa c ∧ toF rs s c ∈ F.map (·.1) := by
  unfold nextF
  rw [List.mem_filter, Bool.and_eq_true, decide_eq_true_eq, List.any_eq_true]
  refine and_congr Iff.rfl (and_congr Iff.rfl ⟨fun ⟨c, h1, h2⟩ => ⟨c, by simpa [Fa] using h1, of_decide_eq_true h2⟩, fun ⟨c, h1, h2⟩ => ⟨c, by simpa [Fa] using h1, decide_eq_true h2⟩⟩)
theorem FewL.len (h : FewL rs G k F) : F.length ≤ rs.length := by
  have := nodup_le _ (rs.map (·.nm)) h.nd fun s hs => by
    obtain ⟨q, hq, rfl⟩ := List.mem_map.mp hs
    exact (h.m q hq).1
  simpa using this
theorem FewL.zero {L : List (List Nat)} (nd : L.Nodup) (hL : ∀ s, s ∈ L ↔ s ∈ rs.map (·.nm) ∧ G s) : FewL rs G 0 (L.map fun s => (s, 0)) := by
  have e : (L.map fun s => ((s, 0) : NN)).map (·.1) = L := by rw [List.map_map]; exact (List.map_congr_left fun _ _ => rfl).trans (List.map_id L)
  refine ⟨by rw [e]; exact nd, fun q hq => ?_, fun s hs n hn h => ?_, Nat.zero_le _⟩
  · obtain ⟨s, hs, rfl⟩ := List.mem_map.mp hq
    obtain ⟨h1, h2⟩ := (hL s).mp hs
    exact ⟨h1, nearG_zero.mpr h2, (fun m hm => by omega), Nat.le_refl _⟩
  · obtain rfl : n = 0 := by omega
    rw [e]
    exact (hL s).mpr ⟨hs, nearG_zero.mp h⟩
/-- just the states that are so far -/
theorem FewL.at_next (h : FewL rs G k F) (hc : Closed rs) (hs : s ∈ rs.map (·.nm)) : s ∈ nextF rs F ↔ (NearG rs G s (k + 1) ∧ ∀ m, m < k + 1 → ¬ NearG rs G s m) := by
  rw [mem_nextF]
  constructor
  · rintro ⟨_, hn, c, hcf, ht⟩
    obtain ⟨q, hq, e⟩ := List.mem_map.mp ht
    obtain ⟨m1, m2, m3, m4⟩ := h.m q hq
    have no : ∀ m, m < k + 1 → ¬ NearG rs G s m := fun m hm z => hn (h.a s hs m (by omega) z)
    have near : NearG rs G s (q.2 + 1) := nearG_succ.mpr ⟨c, hcf, by rw [← e]; exact m2⟩
    have : q.2 = k := by
      apply Classical.byContradiction
      intro z
      exact no (q.2 + 1) (by omega) near
    rw [this] at near
    exact ⟨near, no⟩
  · rintro ⟨near, no⟩
    obtain ⟨c, hcf, hc2⟩ := nearG_succ.mp near
    refine ⟨hs, fun z => ?_, c, hcf, h.a _ (toF_mem hc hs hcf) k (Nat.le_refl _) hc2⟩
    obtain ⟨q, hq, e⟩ := List.mem_map.mp z
    obtain ⟨_, m2, _, m4⟩ := h.m q hq
    rw [e] at m2
    exact no q.2 (by omega) m2
theorem FewL.step (h : FewL rs G k F) (hc : Closed rs) (u : Uniq rs) (ne : nextF rs F ≠ []) : FewL rs G (k + 1) (F ++ (nextF rs F).map fun s => (s, k + 1)) := by
  have e : ((nextF rs F).map fun s => ((s, k + 1) : NN)).map (·.1) = nextF rs F := by rw [List.map_map]; exact (List.map_congr_left fun _ _ => rfl).trans (List.map_id _)
  refine ⟨?_, fun q hq => ?_, fun s hs n hn hg => ?_, ?_⟩
  · rw [List.map_append, e, List.nodup_append]
    refine ⟨h.nd, List.Sublist.nodup List.filter_sublist u, fun x h1 y h2 z => ?_⟩
    subst z
    exact (mem_nextF.mp h2).2.1 h1
  · rcases List.mem_append.mp hq with h1 | h1
    · obtain ⟨a, b, c, d⟩ := h.m q h1
      exact ⟨a, b, c, by omega⟩
    · obtain ⟨s, hs, rfl⟩ := List.mem_map.mp h1
      have hs2 := (mem_nextF.mp hs).1
      obtain ⟨a, b⟩ := (h.at_next hc hs2).mp hs
      exact ⟨hs2, a, b, Nat.le_refl _⟩
  · rw [List.map_append, e, List.mem_append]
    by_cases hl : ∃ m, m ≤ k ∧ NearG rs G s m
    · obtain ⟨m, h1, h2⟩ := hl
      exact .inl (h.a s hs m h1 h2)
    · have hn2 : n = k + 1 := by
        apply Classical.byContradiction
        intro z
        exact hl ⟨n, by omega, hg⟩
      subst hn2
      exact .inr ((h.at_next hc hs).mpr ⟨hg, fun m hm z => hl ⟨m, by omega, z⟩⟩)
  · have : 0 < (nextF rs F).length := List.length_pos_iff.mpr ne
    have := h.g
    rw [List.length_append, List.length_map]
    omega
theorem FewL.done (h : FewL rs G k F) (hc : Closed rs) (e : nextF rs F = []) : Few rs G F := by
  have h2 := h.g
  have h3 := h.len
  refine ⟨h.nd, fun q hq => ?_, ?_⟩
  · obtain ⟨a, b, c, d⟩ := h.m q hq
    exact ⟨a, b, c, by omega⟩
  · intro s hs n
    induction n generalizing s with
    | zero => exact fun hg => h.a s hs 0 (Nat.zero_le _) hg
    | succ n ih =>
      intro hg
      obtain ⟨c, hcf, hc2⟩ := nearG_succ.mp hg
      have ht := ih _ (toF_mem hc hs hcf) hc2
      apply Classical.byContradiction
      intro hn
      have : s ∈ nextF rs F := mem_nextF.mpr ⟨hs, hn, c, hcf, ht⟩
      rw [e] at this
      cases this
theorem Few.mem (h : Few rs G F) (hs : s ∈ rs.map (·.nm)) : s ∈ F.map (·.1) ↔ ∃ n, NearG rs G s n :=
  ⟨fun z => by obtain ⟨q, hq, rfl⟩ := List.mem_map.mp z; exact ⟨q.2, (h.m q hq).2.1⟩, fun ⟨n, z⟩ => h.a s hs n z⟩
theorem Few.len (h : Few rs G F) : F.length ≤ rs.length := by
  have := nodup_le _ (rs.map (·.nm)) h.nd fun s hs => by
    obtain ⟨q, hq, rfl⟩ := List.mem_map.mp hs
    exact (h.m q hq).1
  simpa using this
end
/-! ### states from which something is let -/
theorem lives_near {rs : List Row3} {s : List Nat} : Lives rs s ↔ ∃ n, NearG rs (Ring rs) s n := by
  constructor
  · rintro (h | ⟨t, h1, wd, hw, _, rfl⟩)
    · exact ⟨0, nearG_zero.mpr h⟩
    · exact ⟨wd.length, wd, hw, rfl, h1⟩
  · rintro ⟨n, wd, hw, _, h⟩
    cases wd with
    | nil => exact .inl h
    | cons c v => exact .inr ⟨_, h, c :: v, hw, (by simp), rfl⟩
theorem lives_back {rs : List Row3} {s : List Nat} {c : Nat} (hc : Fa c) (h : Lives rs (toF rs s c)) : Lives rs s := by
  rw [lives_near] at h ⊢
  obtain ⟨n, h⟩ := h
  exact ⟨n + 1, nearG_succ.mpr ⟨c, hc, h⟩⟩
def Dead (rs : List Row3) (s : List Nat) : Prop := ¬ Lives rs s
theorem dead_run {rs : List Row3} {w : List Nat} (hw : Wd w) : ∀ {s : List Nat}, Dead rs s → Dead rs (runF rs s w) := by
  induction w with
  | nil => exact fun h => h
  | cons c v ih => exact fun h => ih (fun x hx => hw x (List.mem_cons_of_mem _ hx)) fun z => h (lives_back (hw c (List.mem_cons_self ..)) z)
theorem dead_more {rs : List Row3} {s : List Nat} {n m : Nat} (h : NearG rs (Dead rs) s n) (hm : n ≤ m) : NearG rs (Dead rs) s m := by
  obtain ⟨wd, hw, rfl, h⟩ := h
  have wr : Wd (List.replicate (m - wd.length) 110) := fun c hc => .inl (List.eq_of_mem_replicate hc)
  exact ⟨wd ++ List.replicate (m - wd.length) 110, hw.app wr, by simp; omega, by rw [runF_app]; exact dead_run wr h⟩
/-- how far the first state is from a dead one -/
structure LeastR (rs : List Row3) (o : Option Nat) : Prop where
  n : o = none → ∀ n, ¬ NearG rs (Dead rs) (firstOf rs) n
  s : ∀ n, o = some n → NearG rs (Dead rs) (firstOf rs) n ∧ (∀ m, m < n → ¬ NearG rs (Dead rs) (firstOf rs) m) ∧ n ≤ rs.length
theorem Few.least {rs : List Row3} {F : List NN} (h : Few rs (Dead rs) F) (ne : rs ≠ []) : ∃ o : Option Nat, valV (nK F) (.inr (S (firstOf rs))) = o.map (fun n => V.int (n : Int)) ∧ LeastR rs o := by
  by_cases hin : firstOf rs ∈ F.map (·.1)
  · obtain ⟨q, hq, e⟩ := List.mem_map.mp hin
    obtain ⟨_, m2, m3, m4⟩ := h.m q hq
    rw [e] at m2 m3
    exact ⟨some q.2, by rw [← e, nK_get h.nd hq]; rfl, ⟨(fun z => by cases z), (fun n z => by cases z; exact ⟨m2, m3, m4⟩)⟩⟩
  · refine ⟨none, nK_not hin, ⟨(fun _ n z => hin (h.a _ (first_mem ne) n z)), (fun n z => by cases z)⟩⟩
theorem LeastR.eq {rs : List Row3} {o p : Option Nat} (h : LeastR rs o) (k : LeastR rs p) : o = p := by
  cases o with
  | none =>
    cases p with
    | none => rfl
    | some m => exact absurd (k.s m rfl).1 (h.n rfl m)
  | some n =>
    cases p with
    | none => exact absurd (h.s n rfl).1 (k.n rfl n)
    | some m =>
      obtain ⟨a1, a2, _⟩ := h.s n rfl
      obtain ⟨b1, b2, _⟩ := k.s m rfl
      have h1 : ¬ m < n := fun z => a2 m z b1
      have h2 : ¬ n < m := fun z => b2 n z a1
      congr 1
      omega
/-! ### the first barred word in a sequence -/
def deadIn (rs : List Row3) (n : Nat) (w : List Nat) : Prop := NearG rs (Dead rs) (runF rs (firstOf rs) w) n
open Classical in
noncomputable def pickC (rs : List Row3) (o : Int → List Nat) (n : Nat) (w : List Nat) : List Nat := (o (pl w % 2)).filter fun c => decide (deadIn rs n (w ++ [c]))
open Classical in
noncomputable def grd (rs : List Row3) (o : Int → List Nat) : Nat → List Nat → List Nat
  | 0, w => w
  | n + 1, w => grd rs o n (w ++ (pickC rs o n w).take 1)
open Classical in
theorem pick_some {rs : List Row3} {o : Int → List Nat} {n : Nat} {w : List Nat} (ho : ∀ p c, Fa c → c ∈ o p) (h : deadIn rs (n + 1) w) : ∃ c r, pickC rs o n w = c :: r ∧ deadIn rs n (w ++ [c]) ∧ c ∈ o (pl w % 2) := by
  obtain ⟨c, hc, h2⟩ := nearG_succ.mp h
  have hm : c ∈ pickC rs o n w := by
    unfold pickC
    rw [List.mem_filter, decide_eq_true_eq]
    exact ⟨ho _ _ hc, by unfold deadIn; rw [runF_snoc]; exact h2⟩
  cases e : pickC rs o n w with
  | nil => rw [e] at hm; cases hm
  | cons x r =>
    have hx : x ∈ pickC rs o n w := by rw [e]; exact List.mem_cons_self ..
    unfold pickC at hx
    rw [List.mem_filter, decide_eq_true_eq] at hx
    exact ⟨x, r, rfl, hx.2, hx.1⟩
theorem fewest_le {rs : List Row3} {F : List NN} (h : Few rs (Dead rs) F) {q : NN} (hq : q ∈ F) (n : Nat) : q.2 ≤ n ↔ NearG rs (Dead rs) q.1 n := by
  obtain ⟨_, m2, m3, _⟩ := h.m q hq
  exact ⟨fun z => dead_more m2 z, fun z => by
    apply Classical.byContradiction
    intro hn
    exact m3 n (by omega) z⟩
/-! ### readings -/
section
variable {σ : L2.St} {H : Hp} {Q : VK}
theorem r_iRev {tr : L2.St → Hp → (Int → Int → Hp → Prop) → Prop} {R : It → Hp → Prop} (h : tr σ H fun a b H1 => -(2 ^ 62) ≤ a ∧ a < 2 ^ 62 ∧ -(2 ^ 62) ≤ b ∧ b < 2 ^ 62 ∧ R (Itc (a + (((b - a).toNat : Nat) : Int) - 1) (-1) (b - a).toNat) H1) : iRevR tr σ H R := h
theorem r_dget2 {td ty tx : TE} (h : td σ H fun x H1 => ∃ a, x = .ref a ∧ IsD H1 a ∧ ty σ H1 fun y H2 => tx σ H2 fun z H3 => ∃ o, DGet H3 a y o ∧ Q (o.getD z) H3) : tDGet2 td ty tx σ H Q := h
theorem Same.unlock {X : Hp} {d : Addr} {u z : HO} (hd : H d = some u) (h : Same (upd H d z) X) : Same H (upd X d u) := fun b o e => by
  by_cases hb : b = d
  · subst hb
    rw [hd] at e
    cases e
    exact upd_same
  · rw [upd_ne hb]
    exact h b o (by rw [upd_ne hb]; exact e)
theorem nK_wK {F : List NN} {f : Nat → List Nat} : nK F ≠ wK f := fun h => by
  cases F with
  | nil => cases h
  | cons q F =>
    unfold nK wK at h
    rw [List.map_cons] at h
    have := congrArg Prod.snd (List.cons.inj h).1
    cases this
end
theorem wK_at {w : Nat → List Nat} {i : Nat} {k : Key} {v : V} (e : (wK w)[i]? = some (k, v)) : ∃ c, ([110, 102, 115] : List Nat)[i]? = some c ∧ v = .str (S (w c)) := by
  match i, e with
  | 0, e => cases e; exact ⟨_, rfl, rfl⟩
  | 1, e => cases e; exact ⟨_, rfl, rfl⟩
  | 2, e => cases e; exact ⟨_, rfl, rfl⟩
/-- [l for l in .. if b(l)] -/
theorem lc_filt {α : Type} {J : It} {ls : List α} (f : α → V) {g : TG} {tt : TT} {te : TE} {vs : List Nat} {σ : L2.St} {B0 : Hp} {D : Addr} {Qd : Hp → Prop} (b : α → Bool) (hD : B0 D = none) (hz : ls.length ≤ 1000000)
    (hgo : ∀ i X, i < ls.length → Same B0 X → J.go i X) (hstop : ∀ X, Same B0 X → J.stop ls.length X)
    (hs : ∀ (i : Nat) (l : α) (X Y : Hp) (v : V), ls[i]? = some l → Same B0 X → J.yld i X v Y → ∀ R : L2.St → Bool → Hp → Prop, (∀ σ2 Z c, c = b l → (∀ (R' : VK), R' (f l) Z → te σ2 Z R') → Same X Z → R σ2 c Z) → g v (wipe σ vs) Y fun σ2 H2 => wipe σ2 vs = wipe σ vs ∧ tt σ2 H2 (R σ2))
    (hd : ∀ X, Same B0 X → X D = some (.lst ((ls.filter b).map f)) → Qd X) :
    ∃ W : Nat → Nat → Hp → Prop, (∃ m, W 0 m (upd B0 D (.lst []))) ∧ ∀ i m H, W i m H →
      (J.stop i H ∧ Qd H) ∨ (J.go i H ∧ ∃ Nx : Hp → Prop, (∀ H', Nx H' → ∃ m', m' < m ∧ W (i + 1) m' H') ∧ ∀ x H', J.yld i H x H' → g x (wipe σ vs) H' fun σ2 H2 => wipe σ2 vs = wipe σ vs ∧ tt σ2 H2 fun b H3 =>
        if b = true then te σ2 H3 fun y H4 => ∃ acc, H4 D = some (.lst acc) ∧ acc.length < sizeLine ∧ Nx (upd H4 D (.lst (acc ++ [y]))) else Nx H3) := by
  refine lc_J (n := ls.length) (fun i X => Same B0 X ∧ X D = some (.lst (((ls.take i).filter b).map f))) ⟨same_new hD, upd_same⟩ (fun i X hi h => hgo i X hi h.1) (fun X h => hstop X h.1) ?_ (fun X h => hd X h.1 (by rw [List.take_length] at h; exact h.2))
  rintro i v X Y hi ⟨sX, eX⟩ y
  have el : ls[i]? = some ls[i] := List.getElem?_eq_getElem hi
  refine hs i ls[i] X Y v el sX y (fun σ2 c Z => if c = true then te σ2 Z fun y H4 => ∃ acc, H4 D = some (.lst acc) ∧ acc.length < sizeLine ∧ _ ∧ _ else _ ∧ _) fun σ2 Z c hcb ht sZ => ?_
  subst hcb
  have eZ := sZ _ _ eX
  cases hb : b ls[i] with
  | true =>
    rw [if_pos rfl]
    refine ht _ ⟨_, eZ, ?_, Same.mut (Same.trans sX sZ) hD, ?_⟩
    · rw [List.length_map]
      have := List.length_filter_le b (ls.take i)
      rw [List.length_take] at this
      exact lt_line (by omega)
    · rw [upd_same, take_snoc' el, List.filter_append, List.map_append, List.filter_cons, hb, if_pos rfl]
      rfl
  | false =>
    rw [if_neg Bool.false_ne_true]
    refine ⟨Same.trans sX sZ, ?_⟩
    rw [eZ, take_snoc' el, List.filter_append, List.filter_cons, hb, if_neg Bool.false_ne_true, List.filter_nil, List.append_nil]
theorem itt_go {K : PySem.W.Frag} {a : Addr} {xs : List V} {B0 : Hp} (h : SqT K B0 a xs) {n : Nat} (hn : n = xs.length) : (∀ i X, i < n → Same B0 X → (Itt K a).go i X) ∧ ∀ X, Same B0 X → (Itt K a).stop n X := by
  subst hn
  exact ⟨fun i X hi s => ⟨xs, xs[i], Same.sqt s h, List.getElem?_eq_getElem hi⟩, fun X s => ⟨xs, Same.sqt s h, Nat.le_refl _⟩⟩
theorem itl_go {K : PySem.W.Frag} {a : Addr} {xs : List V} {B0 : Hp} (h : SqL K B0 a xs) {n : Nat} (hn : n = xs.length) : (∀ i X, i < n → Same B0 X → (Itl K a).go i X) ∧ ∀ X, Same B0 X → (Itl K a).stop n X := by
  subst hn
  exact ⟨fun i X hi s => ⟨xs, xs[i], Same.sql s h, List.getElem?_eq_getElem hi⟩, fun X s => ⟨xs, Same.sql s h, Nat.le_refl _⟩⟩
noncomputable def ringB (rs : List Row3) (s : List Nat) : Bool := @decide (Goes1 rs s s) (Classical.propDecidable _)
theorem ringB_iff {rs : List Row3} {s : List Nat} : ringB rs s = true ↔ Goes1 rs s s := @decide_eq_true_iff _ (Classical.propDecidable _)
theorem oftens_mem {rs : List Row3} {s : List Nat} (h : s ∈ oftens rs) : s ∈ rs.map (·.nm) := by
  unfold oftens at h
  obtain ⟨r, hr, rfl⟩ := List.mem_map.mp h
  exact List.mem_map.mpr ⟨r, (List.mem_filter.mp hr).1, rfl⟩
theorem rings_mem {rs : List Row3} (u : Uniq rs) (s : List Nat) : s ∈ (oftens rs).filter (ringB rs) ↔ s ∈ rs.map (·.nm) ∧ Ring rs s := by
  rw [List.mem_filter, ringB_iff]
  constructor
  · exact fun ⟨h1, h2⟩ => ⟨oftens_mem h1, (mem_oftens u).mp h1, h2⟩
  · exact fun ⟨_, h1, h2⟩ => ⟨(mem_oftens u).mpr h1, h2⟩
theorem oftens_nodup {rs : List Row3} (u : Uniq rs) : (oftens rs).Nodup := List.Sublist.nodup (List.Sublist.map _ List.filter_sublist) u
theorem oftens_le {rs : List Row3} : (oftens rs).length ≤ rs.length := by unfold oftens; rw [List.length_map]; exact List.length_filter_le ..
noncomputable def deadB (rs : List Row3) (s : List Nat) : Bool := @decide (Dead rs s) (Classical.propDecidable _)
theorem deadB_iff {rs : List Row3} {s : List Nat} : deadB rs s = true ↔ Dead rs s := @decide_eq_true_iff _ (Classical.propDecidable _)
theorem dead_few {rs : List Row3} {F : List NN} (h : Few rs (Ring rs) F) {s : List Nat} (hs : s ∈ rs.map (·.nm)) : (!decide (s ∈ F.map (·.1))) = deadB rs s := by
  rw [Bool.eq_iff_iff, deadB_iff, Bool.not_eq_true', decide_eq_false_iff_not, h.mem hs, ← lives_near]
  exact Iff.rfl
/-- a number or None -/
def natV : Option Nat → V
  | none => .non
  | some n => .int (n : Int)
/-- a sequence of fates by the place's rest -/
structure SeqO (o : Int → List Nat) : Prop where
  f : ∀ i, ∀ c ∈ o i, Fa c
  a : ∀ i c, Fa c → c ∈ o i
  l : ∀ i, (o i).length ≤ 10
theorem its_yld {l : List Nat} {i c : Nat} {X Y : Hp} {v : V} (e : l[i]? = some c) (y : (Its (S l)).yld i X v Y) : Y = X ∧ v = .str (S [c]) := by
  obtain ⟨rfl, c', e', rfl⟩ := y
  have : some c' = some c := by rw [← e, ← e']; simp [S]
  cases this
  exact ⟨rfl, rfl⟩
/-- so many rounds are enough -/
def enoughN (o : Option Nat) (n : Nat) : Bool := match o with | none => false | some k => decide (k ≤ n)
theorem enough_dead {rs : List Row3} {o : Option Nat} {n : Nat} (h : LeastR rs o) (e : enoughN o n = true) : deadIn rs n [] := by
  cases o with
  | none => cases e
  | some k => exact dead_more (h.s k rfl).1 (of_decide_eq_true e)
def behO (i : Int) : List Nat := if i = 0 then [115, 110, 102] else [102, 110, 115]
theorem behO_ok : SeqO behO where
  f := fun i c hc => by
    unfold behO at hc
    unfold Fa
    split at hc <;> (simp only [List.mem_cons, List.not_mem_nil, or_false] at hc; omega)
  a := fun i c hc => by
    unfold behO
    unfold Fa at hc
    split <;> (simp only [List.mem_cons, List.not_mem_nil, or_false]; omega)
  l := fun i => by unfold behO; split <;> decide
theorem grd_wd {rs : List Row3} {o : Int → List Nat} (ho : SeqO o) : ∀ {n : Nat} {w : List Nat}, deadIn rs n w → Wd w → Wd (grd rs o n w) ∧ (grd rs o n w).length = w.length + n
  | 0, w, _, hw => ⟨hw, rfl⟩
  | n + 1, w, hd, hw => by
    obtain ⟨c, r, e, h1, h2⟩ := pick_some (rs := rs) (o := o) ho.a hd
    show Wd (grd rs o n (w ++ (pickC rs o n w).take 1)) ∧ (grd rs o n (w ++ (pickC rs o n w).take 1)).length = _
    rw [e]
    obtain ⟨a, b⟩ := grd_wd ho (n := n) (w := w ++ [c]) h1 (hw.app fun x hx => by rw [List.mem_singleton.mp hx]; exact ho.f _ _ h2)
    exact ⟨a, by rw [show (c :: r).take 1 = [c] from rfl, b]; simp; omega⟩
theorem wdD_iff {lo hi : Nat} {d : PyData} : wdD lo hi d = true ↔ ∃ l, d = .str (S l) ∧ Wd l ∧ lo ≤ l.length ∧ l.length ≤ hi := by
  constructor
  · intro h
    cases d with
    | str z =>
      have hz := S_of z
      generalize z.cps.toList = l at hz
      subst hz
      exact ⟨l, rfl, wdD_true h⟩
    | _ => cases h
  · rintro ⟨l, rfl, hw, h1, h2⟩
    rw [wdD_S, decide_eq_true h1, decide_eq_true h2, Bool.true_and, Bool.true_and, List.all_eq_true]
    intro c hc
    rcases hw c hc with rfl | rfl | rfl <;> decide
/-! ### counts -/
def bumpN (F : List NN) (s : List Nat) (k : Nat) : List NN := if s ∈ F.map (·.1) then F.map (fun q => if q.1 = s then (q.1, q.2 + k) else q) else F ++ [(s, k)]
def getN (F : List NN) (s : List Nat) : Nat := ((F.find? fun q => decide (q.1 = s)).map (·.2)).getD 0
section
variable {F : List NN} {s : List Nat} {n k : Nat}
theorem getN_mem (nd : (F.map (·.1)).Nodup) {q : NN} (h : q ∈ F) : getN F q.1 = q.2 := by
  unfold getN
  induction F with
  | nil => cases h
  | cons p F ih =>
    rw [List.map_cons, List.nodup_cons] at nd
    rw [List.find?_cons]
    rcases List.mem_cons.mp h with rfl | h2
    · rw [decide_eq_true rfl]; rfl
    · rw [decide_eq_false (fun z => nd.1 (List.mem_map.mpr ⟨q, h2, z.symm⟩))]
      exact ih nd.2 h2
theorem getN_not (h : s ∉ F.map (·.1)) : getN F s = 0 := by
  unfold getN
  rw [List.find?_eq_none.mpr]
  · rfl
  · intro q hq
    simp only [decide_eq_true_eq]
    rintro rfl
    exact h (List.mem_map.mpr ⟨q, hq, rfl⟩)
theorem nK_getD (nd : (F.map (·.1)).Nodup) (s : List Nat) : (valV (nK F) (.inr (S s))).getD (.int 0) = .int (getN F s : Int) := by
  by_cases h : s ∈ F.map (·.1)
  · obtain ⟨q, hq, rfl⟩ := List.mem_map.mp h
    rw [nK_get nd hq, getN_mem nd hq]
    rfl
  · rw [nK_not h, getN_not h]
    rfl
theorem nK_bump (nd : (F.map (·.1)).Nodup) (s : List Nat) (k : Nat) : putK (nK F) (.inr (S s)) (.int ((getN F s + k : Nat) : Int)) = nK (bumpN F s k) := by
  unfold bumpN
  by_cases h : s ∈ F.map (·.1)
  · rw [if_pos h]
    unfold putK
    rw [if_pos]
    · unfold nK
      rw [List.map_map, List.map_map]
      refine List.map_congr_left fun q hq => ?_
      show (if (Sum.inr (S q.1) : Key) = Sum.inr (S s) then _ else _) = _
      by_cases e : q.1 = s
      · subst e
        rw [if_pos rfl, getN_mem nd hq]
        simp
      · rw [if_neg (fun z => e (keyS_inj z))]
        simp [e]
    · obtain ⟨q, hq, rfl⟩ := List.mem_map.mp h
      exact List.any_eq_true.mpr ⟨_, List.mem_map.mpr ⟨q, hq, rfl⟩, decide_eq_true rfl⟩
  · rw [if_neg h, getN_not h, Nat.zero_add]
    exact nK_put h
theorem bump_keys (F : List NN) (s : List Nat) (k : Nat) : (bumpN F s k).map (·.1) = if s ∈ F.map (·.1) then F.map (·.1) else F.map (·.1) ++ [s] := by
  unfold bumpN
  by_cases h : s ∈ F.map (·.1)
  · rw [if_pos h, if_pos h, List.map_map]
    refine List.map_congr_left fun q _ => ?_
    show (if q.1 = s then (q.1, q.2 + k) else q).1 = q.1
    split <;> rfl
  · rw [if_neg h, if_neg h, List.map_append]
    rfl
theorem bump_nodup (nd : (F.map (·.1)).Nodup) (s : List Nat) (k : Nat) : ((bumpN F s k).map (·.1)).Nodup := by
  rw [bump_keys]
  by_cases h : s ∈ F.map (·.1)
  · rw [if_pos h]; exact nd
  · rw [if_neg h, List.nodup_append]
    exact ⟨nd, by simp, fun x h1 y h2 z => by rw [List.mem_singleton.mp h2] at z; exact h (z ▸ h1)⟩
theorem bump_mem {t : List Nat} (F : List NN) (s : List Nat) (k : Nat) : t ∈ (bumpN F s k).map (·.1) → t = s ∨ t ∈ F.map (·.1) := by
  rw [bump_keys]
  by_cases h : s ∈ F.map (·.1)
  · rw [if_pos h]; exact .inr
  · rw [if_neg h, List.mem_append, List.mem_singleton]
    exact fun z => z.symm
/-- a weight of what is counted -/
def wsum (g : List Nat → Nat) (F : List NN) : Nat := (F.map fun q => q.2 * g q.1).sum
theorem bump_sum (nd : (F.map (·.1)).Nodup) (g : List Nat → Nat) (s : List Nat) (k : Nat) : wsum g (bumpN F s k) = wsum g F + k * g s := by
  unfold bumpN
  by_cases h : s ∈ F.map (·.1)
  · rw [if_pos h]
    unfold wsum
    induction F with
    | nil => cases h
    | cons p F ih =>
      rw [List.map_cons, List.nodup_cons] at nd
      rw [List.map_cons, List.map_cons, List.sum_cons, List.map_cons, List.sum_cons]
      by_cases e : p.1 = s
      · have hid : F.map (fun q => if q.1 = s then (q.1, q.2 + k) else q) = F := by
          conv => rhs; rw [← List.map_id F]
          refine List.map_congr_left fun q hq => ?_
          rw [if_neg (fun z => nd.1 (List.mem_map.mpr ⟨q, hq, z.trans e.symm⟩))]
          rfl
        rw [hid, if_pos e]
        subst e
        simp only [Nat.add_mul]
        omega
      · rw [if_neg e]
        rcases List.mem_cons.mp (show s ∈ p.1 :: F.map (·.1) from h) with z | z
        · exact absurd z.symm e
        · rw [ih nd.2 z]
          omega
  · rw [if_neg h]
    unfold wsum
    rw [List.map_append, List.sum_append]
    simp
end
/-- the counts one fate later -/
def goN (rs : List Row3) (q : NN) (A : List NN) : List NN := ([110, 102, 115] : List Nat).foldl (fun A c => bumpN A (toF rs q.1 c) q.2) A
def stepN (rs : List Row3) (F : List NN) : List NN := F.foldl (fun A q => goN rs q A) []
def cntN (rs : List Row3) : Nat → List NN
  | 0 => [(firstOf rs, 1)]
  | n + 1 => stepN rs (cntN rs n)
structure CntN (rs : List Row3) (A : List NN) : Prop where
  nd : (A.map (·.1)).Nodup
  m : ∀ s ∈ A.map (·.1), s ∈ rs.map (·.nm)
section
variable {rs : List Row3} {A F : List NN} {q : NN}
theorem CntN.bump (h : CntN rs A) {s : List Nat} {k : Nat} (hs : s ∈ rs.map (·.nm)) : CntN rs (bumpN A s k) :=
  ⟨bump_nodup h.nd s k, fun t ht => (bump_mem A s k ht).elim (fun z => z ▸ hs) (h.m t)⟩
theorem CntN.len (h : CntN rs A) : A.length ≤ rs.length := by
  have := nodup_le _ (rs.map (·.nm)) h.nd fun s hs => h.m s hs
  simpa using this
/-- within a lap, and at one of the counts -/
def goK (rs : List Row3) (q : NN) (A : List NN) (k : Nat) : List NN := (([110, 102, 115] : List Nat).take k).foldl (fun A c => bumpN A (toF rs q.1 c) q.2) A
theorem goK_succ {k c : Nat} (e : ([110, 102, 115] : List Nat)[k]? = some c) : goK rs q A (k + 1) = bumpN (goK rs q A k) (toF rs q.1 c) q.2 := by
  unfold goK
  rw [take_snoc' e, List.foldl_append]
  rfl
theorem CntN.goK (h : CntN rs A) (hc : Closed rs) (hq : q.1 ∈ rs.map (·.nm)) : ∀ k, CntN rs (goK rs q A k)
  | 0 => h
  | k + 1 => by
    by_cases hk : k < 3
    · obtain ⟨c, e⟩ : ∃ c, ([110, 102, 115] : List Nat)[k]? = some c := ⟨_, List.getElem?_eq_getElem hk⟩
      rw [goK_succ e]
      exact (CntN.goK h hc hq k).bump (toF_mem hc hq (by have := List.mem_of_getElem? e; simpa using this))
    · have := CntN.goK h hc hq k
      unfold Tf.goK at this ⊢
      rwa [List.take_of_length_le (by simp; omega)] at this ⊢
theorem CntN.fold (hc : Closed rs) : ∀ (F : List NN) (A : List NN), CntN rs A → (∀ q ∈ F, q.1 ∈ rs.map (·.nm)) → CntN rs (F.foldl (fun A q => goN rs q A) A)
  | [], _, h, _ => h
  | q :: F, A, h, hF => CntN.fold hc F _ (h.goK hc (hF q (List.mem_cons_self ..)) 3) fun x hx => hF x (List.mem_cons_of_mem _ hx)
theorem CntN.nil : CntN rs [] := ⟨List.nodup_nil, fun _ h => nomatch h⟩
theorem cntN_ok (hc : Closed rs) (ne : rs ≠ []) : ∀ n, CntN rs (cntN rs n)
  | 0 => ⟨by simp [cntN], fun s hs => by simp [cntN] at hs; rw [hs]; exact first_mem ne⟩
  | n + 1 => CntN.fold hc _ _ CntN.nil fun q hq => (cntN_ok hc ne n).m _ (List.mem_map.mpr ⟨q, hq, rfl⟩)
theorem goN_sum (h : CntN rs A) (hc : Closed rs) (hq : q.1 ∈ rs.map (·.nm)) (g : List Nat → Nat) : wsum g (goN rs q A) = wsum g A + q.2 * (g (toF rs q.1 110) + g (toF rs q.1 102) + g (toF rs q.1 115)) := by
  show wsum g (bumpN (bumpN (bumpN A (toF rs q.1 110) q.2) (toF rs q.1 102) q.2) (toF rs q.1 115) q.2) = _
  have h1 := h.bump (k := q.2) (toF_mem hc hq (.inl rfl))
  have h2 := h1.bump (k := q.2) (toF_mem hc hq (.inr (.inl rfl)))
  rw [bump_sum h2.nd, bump_sum h1.nd, bump_sum h.nd]
  simp only [Nat.mul_add]
  omega
theorem fold_sum (hc : Closed rs) (g : List Nat → Nat) : ∀ (F : List NN) (A : List NN), CntN rs A → (∀ q ∈ F, q.1 ∈ rs.map (·.nm)) → wsum g (F.foldl (fun A q => goN rs q A) A) = wsum g A + wsum (fun s => g (toF rs s 110) + g (toF rs s 102) + g (toF rs s 115)) F
  | [], A, h, _ => by simp [wsum]
  | q :: F, A, h, hF => by
    have hq := hF q (List.mem_cons_self ..)
    have h1 : CntN rs (goN rs q A) := h.goK hc hq 3
    rw [List.foldl_cons, fold_sum hc g F _ h1 (fun x hx => hF x (List.mem_cons_of_mem _ hx)), goN_sum h hc hq g]
    unfold wsum
    rw [List.map_cons, List.sum_cons]
    dsimp only
    omega
end
noncomputable def liveW (rs : List Row3) (s : List Nat) : Nat := if deadB rs s = true then 0 else 1
theorem live_sum (rs : List Row3) : ∀ F : List NN, ((F.filter fun q => !deadB rs q.1).map fun q => ((q.2 : Nat) : Int)).sum = ((wsum (liveW rs) F : Nat) : Int)
  | [] => rfl
  | q :: F => by
    have ih := live_sum rs F
    unfold wsum at ih ⊢
    rw [List.filter_cons, List.map_cons, List.sum_cons]
    cases hb : deadB rs q.1
    · rw [if_pos (show (!false) = true from rfl), List.map_cons, List.sum_cons, ih]
      unfold liveW
      rw [hb, if_neg Bool.false_ne_true]
      omega
    · rw [if_neg (show ¬ (!true) = true from Bool.false_ne_true), ih]
      unfold liveW
      rw [hb, if_pos rfl]
      omega
theorem Same.lock {H Y : Hp} {d : Addr} {z : HO} (h : Same H Y) : Same (upd H d z) (upd Y d z) := fun b o e => by
  by_cases hb : b = d
  · subst hb
    rw [upd_same] at e
    rw [upd_same]
    exact e
  · rw [upd_ne hb] at e ⊢
    exact h b o e
theorem nK_at {F : List NN} {i : Nat} {k : Key} {v : V} (e : (nK F)[i]? = some (k, v)) : ∃ q, F[i]? = some q ∧ k = .inr (S q.1) ∧ v = .int (q.2 : Int) := by
  unfold nK at e
  rw [List.getElem?_map] at e
  obtain ⟨q, h1, h2⟩ := Option.map_eq_some_iff.mp e
  cases h2
  exact ⟨q, h1, rfl, rfl⟩
/-! ### drawn laws whose ways are dicts of their own -/
def RowD (X : Hp) (d t : Addr) : Prop := ∃ n b f, X t = some (.tup [n, b, .ref d]) ∧ X d = some (.dK (wK f))
def DsAt (H X : Hp) (ts : List Addr) : Prop := ∃ ds : List Addr, ds.Nodup ∧ Paired (RowD X) ds ts ∧ ∀ d ∈ ds, H d = none
section
variable {a p2 F D : Addr} {L : List V} {rs : List Row3} {ts : List Addr} {H X Y : Hp} {q : Int} {d t : Addr}
theorem RowD.same (e : Same X Y) (h : RowD X d t) : RowD Y d t := by
  obtain ⟨n, b, f, h1, h2⟩ := h
  exact ⟨n, b, f, e _ _ h1, e _ _ h2⟩
theorem RowD.but (e : But a X Y) (hP : PotAt X a q) (h : RowD X d t) : RowD Y d t := by
  obtain ⟨own, sd, n, hA, _⟩ := hP
  obtain ⟨n, b, f, h1, h2⟩ := h
  exact ⟨n, b, f, e _ _ (fun z => by subst z; rw [hA] at h1; cases h1) h1, e _ _ (fun z => by subst z; rw [hA] at h2; cases h2) h2⟩
theorem RowD.lst {xs ys : List V} (hD : X D = some (.lst xs)) (h : RowD X d t) : RowD (upd X D (.lst ys)) d t := by
  obtain ⟨n, b, f, h1, h2⟩ := h
  exact ⟨n, b, f, by rw [upd_ne (fun z => by subst z; rw [hD] at h1; cases h1)]; exact h1, by rw [upd_ne (fun z => by subst z; rw [hD] at h2; cases h2)]; exact h2⟩
theorem DsAt.same (e : Same X Y) (h : DsAt H X ts) : DsAt H Y ts := by
  obtain ⟨ds, a, b, c⟩ := h
  exact ⟨ds, a, b.mono fun _ _ h => h.same e, c⟩
theorem DsAt.but (e : But a X Y) (hP : PotAt X a q) (h : DsAt H X ts) : DsAt H Y ts := by
  obtain ⟨ds, a, b, c⟩ := h
  exact ⟨ds, a, b.mono fun _ _ h => h.but e hP, c⟩
theorem DsAt.lst {xs ys : List V} (hD : X D = some (.lst xs)) (h : DsAt H X ts) : DsAt H (upd X D (.lst ys)) ts := by
  obtain ⟨ds, a, b, c⟩ := h
  exact ⟨ds, a, b.mono fun _ _ h => h.lst hD, c⟩
theorem DsAt.add {n b : V} {f : Nat → List Nat} (h : DsAt H X ts) (hd : H d = none) (h1 : X t = some (.tup [n, b, .ref d])) (h2 : X d = some (.dK (wK f))) (hn : ∀ ds, Paired (RowD X) ds ts → d ∉ ds) : DsAt H X (ts ++ [t]) := by
  obtain ⟨ds, a, b', c⟩ := h
  refine ⟨ds ++ [d], ?_, b'.snoc ⟨n, b, f, h1, h2⟩, fun x hx => ?_⟩
  · rw [List.nodup_append]
    exact ⟨a, by simp, fun x hx y hy z => by rw [List.mem_singleton.mp hy] at z; exact hn ds b' (z ▸ hx)⟩
  · rcases List.mem_append.mp hx with h | h
    · exact c x h
    · rw [List.mem_singleton.mp h]; exact hd
/-- what stands while rows are made -/
structure Mk3D (a p2 F : Addr) (L : List V) (rs : List Row3) (ts : List Addr) (H X : Hp) : Prop where
  m : Mk3 a p2 F L rs ts H X
  d : DsAt H X ts
theorem Mk3D.l (h : Mk3D a p2 F L rs ts H X) : X p2 = some (.lst L) := h.m.l
theorem Mk3D.f (h : Mk3D a p2 F L rs ts H X) : X F = some (.lst (ts.map V.ref)) := h.m.f
theorem Mk3D.b (h : Mk3D a p2 F L rs ts H X) : But a H X := h.m.b
theorem Mk3D.r (h : Mk3D a p2 F L rs ts H X) : Paired (RowH X) rs ts := h.m.r
theorem Mk3D.keepA (m : Mk3D a p2 F L rs ts H X) (na : p2 ≠ a) (nf : F ≠ a) (hP : PotAt X a q) (e : But a X Y) : Mk3D a p2 F L rs ts H Y := ⟨m.m.keepA na nf hP e, m.d.but e hP⟩
theorem Mk3D.keepS (m : Mk3D a p2 F L rs ts H X) (e : Same X Y) : Mk3D a p2 F L rs ts H Y := ⟨m.m.keepS e, m.d.same e⟩
theorem Mk3D.keepD {xs ys : List V} (m : Mk3D a p2 F L rs ts H X) (h0 : H D = none) (n1 : D ≠ p2) (n2 : D ≠ F) (hD : X D = some (.lst xs)) : Mk3D a p2 F L rs ts H (upd X D (.lst ys)) := ⟨m.m.keepD h0 n1 n2 hD, m.d.lst hD⟩
end
/-- a law whose ways are dicts of their own, none of which stood in H -/
def OwnD (H X : Hp) (p : Addr) (rs : List Row3) : Prop := ∃ ts : List Addr, X p = some (.lst (ts.map V.ref)) ∧ Paired (RowH X) rs ts ∧ DsAt H X ts
theorem OwnD.h {H X : Hp} {p : Addr} {rs : List Row3} (h : OwnD H X p rs) : OwnH X p rs := by
  obtain ⟨ts, a, b, _⟩ := h
  exact ⟨ts, a, b⟩
theorem tne_pot {X : Hp} {a t : Addr} {q : Int} {ys : List V} (hP : PotAt X a q) (h : X t = some (.tup ys)) : t ≠ a := fun z => by
  obtain ⟨own, sd, n, hA, _⟩ := hP
  subst z
  rw [hA] at h
  cases h
theorem paired_mk {α β : Type} {F : α → β → Prop} : ∀ {l : List α} {m : List β}, l.length = m.length → (∀ (i : Nat) (x : α) (y : β), l[i]? = some x → m[i]? = some y → F x y) → Paired F l m
  | [], [], _, _ => .nil
  | [], _ :: _, h, _ => by simp at h
  | _ :: _, [], h, _ => by simp at h
  | x :: l, y :: m, h, f => .cons (f 0 x y rfl rfl) (paired_mk (by simpa using h) fun i a b e1 e2 => f (i + 1) a b (by simpa using e1) (by simpa using e2))
theorem wK_put (w : Nat → List Nat) {c : Nat} (hc : Fa c) (v : List Nat) : putK (wK w) (.inr (S [c])) (.str (S v)) = wK fun x => if x = c then v else w x := by
  have n : ∀ {x y : Nat}, x ≠ y → ¬ (Sum.inr (S [x]) : Key) = Sum.inr (S [y]) := fun h z => h (by have := S_iff.mp (congrArg V.str (Sum.inr.inj z)); simpa using this)
  unfold putK
  rcases hc with rfl | rfl | rfl
  · rw [if_pos (by unfold wK; simp)]
    unfold wK
    simp only [List.map_cons, List.map_nil]
    rw [if_neg (n (x := 102) (y := 110) (by decide)), if_neg (n (x := 115) (y := 110) (by decide))]
    rfl
  · rw [if_pos (by unfold wK; simp)]
    unfold wK
    simp only [List.map_cons, List.map_nil]
    rw [if_neg (n (x := 110) (y := 102) (by decide)), if_neg (n (x := 115) (y := 102) (by decide))]
    rfl
  · rw [if_pos (by unfold wK; simp)]
    unfold wK
    simp only [List.map_cons, List.map_nil]
    rw [if_neg (n (x := 110) (y := 115) (by decide)), if_neg (n (x := 102) (y := 115) (by decide))]
    rfl
section
variable {H X : Hp} {p d t : Addr} {rs : List Row3} {ts ds : List Addr} {i : Nat} {r : Row3}
theorem ds_at (hd : Paired (RowD X) ds ts) {j : Nat} {t d : Addr} {n b : V} (et : ts[j]? = some t) (ht : X t = some (.tup [n, b, .ref d])) : ds[j]? = some d := by
  obtain ⟨d2, e2, n2, b2, f2, h1, h2⟩ := paired_get hd et
  rw [ht] at h1
  cases h1
  exact e2
theorem own_mut (hp : X p = some (.lst (ts.map V.ref))) (hr : Paired (RowH X) rs ts) (nd : ds.Nodup) (hd : Paired (RowD X) ds ts) (er : rs[i]? = some r) (et : ts[i]? = some t) (ht : X t = some (.tup [.str (S r.nm), .bl r.oft, .ref d])) {w0 w' : Nat → List Nat} (hd0 : X d = some (.dK (wK w0))) : OwnH (upd X d (.dK (wK w'))) p (rs.set i ⟨r.nm, r.oft, w'⟩) := by
  have np : p ≠ d := fun z => by subst z; rw [hp] at hd0; cases hd0
  have nt : ∀ t ys, X t = some (.tup ys) → t ≠ d := fun t ys h z => by subst z; rw [h] at hd0; cases hd0
  refine ⟨ts, (upd_ne np).trans hp, paired_mk (by rw [List.length_set]; exact hr.length) fun j x y e1 e2 => ?_⟩
  by_cases hj : j = i
  · subst hj
    obtain rfl : y = t := Option.some.inj (e2.symm.trans et)
    rw [List.getElem?_set_self (by exact (List.getElem?_eq_some_iff.mp er).1)] at e1
    cases e1
    exact ⟨d, (upd_ne (nt _ _ ht)).trans ht, upd_same⟩
  · rw [List.getElem?_set_ne (fun z => hj z.symm)] at e1
    obtain ⟨y', e3, d2, g1, g2⟩ := paired_getL hr e1
    obtain rfl : y' = y := Option.some.inj (e3.symm.trans e2)
    have n2 : d2 ≠ d := fun z => by
      subst z
      have a1 := ds_at hd et ht
      have a2 := ds_at hd e2 g1
      obtain ⟨b1, c1⟩ := List.getElem?_eq_some_iff.mp a1
      obtain ⟨b2, c2⟩ := List.getElem?_eq_some_iff.mp a2
      exact hj ((List.getElem_inj nd).mp (c2.trans c1.symm))
    exact ⟨d2, (upd_ne (nt _ _ g1)).trans g1, (upd_ne n2).trans g2⟩
theorem set_nms {w' : Nat → List Nat} (er : rs[i]? = some r) : (rs.set i ⟨r.nm, r.oft, w'⟩).map (·.nm) = rs.map (·.nm) := by
  refine List.ext_getElem? fun j => ?_
  rw [List.getElem?_map, List.getElem?_map]
  by_cases hj : j = i
  · subst hj
    rw [List.getElem?_set_self (List.getElem?_eq_some_iff.mp er).1, er]
    rfl
  · rw [List.getElem?_set_ne (fun z => hj z.symm)]
theorem LawG.set {w' : Nat → List Nat} (h : LawG rs) (er : rs[i]? = some r) (hw : ∀ c, Fa c → w' c ∈ rs.map (·.nm)) : LawG (rs.set i ⟨r.nm, r.oft, w'⟩) := by
  have e := set_nms (w' := w') er
  have hm := List.mem_of_getElem? er
  refine ⟨fun z => ?_, by rw [List.length_set]; exact h.len, fun x hx => ?_, ?_, fun x hx c hc => ?_⟩
  · have := congrArg List.length z
    rw [List.length_set] at this
    exact h.ne (List.length_eq_zero_iff.mp this)
  · have : x.nm ∈ rs.map (·.nm) := by rw [← e]; exact List.mem_map.mpr ⟨x, hx, rfl⟩
    obtain ⟨y, hy, ey⟩ := List.mem_map.mp this
    rw [← ey]
    exact h.nm y hy
  · unfold Uniq
    rw [e]
    exact h.u
  · rw [e]
    rcases List.mem_or_eq_of_mem_set hx with h1 | rfl
    · exact h.cl x h1 c hc
    · exact hw c hc
def zRow : Row3 := ⟨[122], false, fun _ => [122]⟩
theorem Law3.addZ (h : Law3 rs) : LawG (rs ++ [zRow]) := by
  have h6 := h.len
  have hg := h.g
  have hz : ([122] : List Nat) ∉ rs.map (·.nm) := fun z => by
    rw [h.nms] at z
    obtain ⟨_, c, e, h1, h2⟩ := nmL_one z
    have := (List.cons.inj e).1
    omega
  refine ⟨by simp, by simp; omega, fun x hx => ?_, ?_, fun x hx c hc => ?_⟩
  · rcases List.mem_append.mp hx with h1 | h1
    · exact hg.nm x h1
    · rw [List.mem_singleton.mp h1]
      exact ⟨by decide, by decide, fun c hc => by rw [List.mem_singleton.mp hc]; omega⟩
  · unfold Uniq
    rw [List.map_append, List.nodup_append]
    refine ⟨h.u, by simp, fun x hx y hy z => ?_⟩
    have : y = [122] := List.mem_singleton.mp hy
    rw [this] at z
    exact hz (z ▸ hx)
  · rw [List.map_append]
    rcases List.mem_append.mp hx with h1 | h1
    · exact List.mem_append_left _ (h.cl x h1 c hc)
    · rw [List.mem_singleton.mp h1]
      exact List.mem_append_right _ (List.mem_singleton.mpr rfl)
end
theorem ways3_nodup (f : Nat → V) : (([((.inr (S [110]) : Key), f 110), (.inr (S [102]), f 102), (.inr (S [115]), f 115)]).map (·.1)).Nodup := by
  have n : ∀ {x y : Nat}, x ≠ y → ¬ (Sum.inr (S [x]) : Key) = Sum.inr (S [y]) := fun h z => h (by have := S_iff.mp (congrArg V.str (Sum.inr.inj z)); simpa using this)
  simp only [List.map_cons, List.map_nil, List.nodup_cons, List.mem_cons, List.not_mem_nil, or_false, not_or, List.nodup_nil, not_false_eq_true, and_true]
  exact ⟨⟨n (by decide), n (by decide)⟩, n (by decide)⟩
theorem hO_ne {X : Hp} {p a : Addr} {c : Int} {rs : List Row3} {ts : List Addr} (h1 : X p = some (.lst (ts.map V.ref))) (h2 : Paired (RowH X) rs ts) (hw : Law3 rs) (hP : PotAt X a c) : p ≠ a := OwnH.ne hP ⟨ts, h1, h2⟩
theorem dne_pot {X : Hp} {a t : Addr} {q : Int} {ys : List (Key × V)} (hP : PotAt X a q) (h : X t = some (.dK ys)) : t ≠ a := fun z => by
  obtain ⟨own, sd, n, hA, _⟩ := hP
  subst z
  rw [hA] at h
  cases h
theorem FewL.some {rs : List Row3} {G : List Nat → Prop} (hc : Closed rs) (u : Uniq rs) : ∀ (b k : Nat) (F : List NN), FewL rs G k F → rs.length + 1 ≤ k + b → ∃ F', Few rs G F'
  | 0, k, F, h, hb => by
    have h1 := h.len
    have h2 := h.g
    omega
  | b + 1, k, F, h, hb => by
    by_cases e : nextF rs F = []
    · exact ⟨F, h.done hc e⟩
    · exact FewL.some hc u b (k + 1) _ (h.step hc u e) (by omega)
theorem least_some {rs : List Row3} (hg : LawG rs) : ∃ o, LeastR rs o := by
  obtain ⟨F, hF⟩ := FewL.some (G := Dead rs) hg.cl hg.u (rs.length + 1) 0 _ (FewL.zero (L := (rs.map fun r : Row3 => r.nm).filter (deadB rs)) (List.Sublist.nodup List.filter_sublist hg.u) fun s => by rw [List.mem_filter, deadB_iff]) (by omega)
  obtain ⟨o, _, h⟩ := hF.least hg.ne
  exact ⟨o, h⟩
/-- all words of so many letters, as Python sorts -/
def wordsF : Nat → List (List Nat)
  | 0 => [[]]
  | n + 1 => (wordsF n).flatMap fun w => [w ++ [102], w ++ [110], w ++ [115]]
theorem wordsF_mem {n : Nat} {w : List Nat} : w ∈ wordsF n ↔ Wd w ∧ w.length = n := by
  induction n generalizing w with
  | zero =>
    rw [wordsF, List.mem_singleton]
    exact ⟨fun h => by subst h; exact ⟨(fun _ z => nomatch z), rfl⟩, fun h => List.length_eq_zero_iff.mp h.2⟩
  | succ n ih =>
    rw [wordsF, List.mem_flatMap]
    constructor
    · rintro ⟨v, hv, hw⟩
      obtain ⟨h1, h2⟩ := ih.mp hv
      simp only [List.mem_cons, List.not_mem_nil, or_false] at hw
      rcases hw with rfl | rfl | rfl <;> exact ⟨h1.app fun x hx => by rw [List.mem_singleton.mp hx]; decide, by simp [h2]⟩
    · rintro ⟨hw, hl⟩
      obtain ⟨v, c, rfl⟩ : ∃ v c, w = v ++ [c] := ⟨w.dropLast, w.getLast (fun z => by subst z; simp at hl), (List.dropLast_concat_getLast _).symm⟩
      refine ⟨v, ih.mpr ⟨fun x hx => hw x (List.mem_append_left _ hx), by simpa using hl⟩, ?_⟩
      have := hw c (by simp)
      simp only [List.mem_cons, List.not_mem_nil, or_false]
      rcases this with rfl | rfl | rfl <;> simp
theorem wordsF_len : ∀ n, (wordsF n).length = 3 ^ n
  | 0 => rfl
  | n + 1 => by
    rw [wordsF, List.length_flatMap]
    have : (List.map (fun w : List Nat => [w ++ [102], w ++ [110], w ++ [115]].length) (wordsF n)) = (wordsF n).map fun _ => 3 := List.map_congr_left fun _ _ => rfl
    rw [this, List.map_const', List.sum_replicate_nat, wordsF_len n, Nat.pow_succ]
noncomputable def barF (rs : List Row3) (n : Nat) : List (List Nat) := (wordsF n).filter fun w => deadB rs (runF rs (firstOf rs) w)
theorem barF_ne {rs : List Row3} {n : Nat} : barF rs n ≠ [] ↔ NearG rs (Dead rs) (firstOf rs) n := by
  constructor
  · intro h
    cases e : barF rs n with
    | nil => exact absurd e h
    | cons w r =>
      have hw : w ∈ barF rs n := by rw [e]; exact List.mem_cons_self ..
      unfold barF at hw
      obtain ⟨h1, h2⟩ := List.mem_filter.mp hw
      obtain ⟨h3, h4⟩ := wordsF_mem.mp h1
      exact ⟨w, h3, h4, deadB_iff.mp h2⟩
  · rintro ⟨w, h1, h2, h3⟩ e
    have : w ∈ barF rs n := List.mem_filter.mpr ⟨wordsF_mem.mpr ⟨h1, h2⟩, deadB_iff.mpr h3⟩
    rw [e] at this
    cases this
/-- the least barred word of up to as many letters as there are states -/
structure LeastW (rs : List Row3) (o : Option (List Nat)) : Prop where
  n : o = none → ∀ n, n ≤ rs.length → barF rs n = []
  s : ∀ w, o = some w → (∃ r, barF rs w.length = w :: r) ∧ (∀ m, m < w.length → barF rs m = []) ∧ w.length ≤ rs.length
theorem LeastW.r {rs : List Row3} {o : Option (List Nat)} (hg : LawG rs) (h : LeastW rs o) : LeastR rs (o.map (·.length)) := by
  obtain ⟨p, hp⟩ := least_some hg
  have e : p = o.map (·.length) := by
    cases o with
    | none =>
      cases p with
      | none => rfl
      | some n =>
        obtain ⟨a, _, b⟩ := hp.s n rfl
        exact absurd (h.n rfl n b) (barF_ne.mpr a)
    | some w =>
      obtain ⟨⟨r, a⟩, b, c⟩ := h.s w rfl
      have hw : NearG rs (Dead rs) (firstOf rs) w.length := barF_ne.mp (by rw [a]; simp)
      cases p with
      | none => exact absurd hw (hp.n rfl _)
      | some n =>
        obtain ⟨a1, a2, _⟩ := hp.s n rfl
        have h1 : ¬ w.length < n := fun z => a2 _ z hw
        have h2 : ¬ n < w.length := fun z => barF_ne.mpr a1 (b n z)
        show some n = some w.length
        congr 1
        omega
  rw [← e]
  exact hp
def wordV : Option (List Nat) → V
  | none => .non
  | some w => .str (S w)
theorem strs_lay : ∀ ks : List (List Nat), (∀ k ∈ ks, Wd k) → PyData.canLayAll0 (ks.map fun k => PyData.str (S k)) = true
  | [], _ => by simp [PyData.canLayAll0]
  | k :: ks, h => by
    have h1 := ok_S (h k (List.mem_cons_self ..))
    simp [PyData.canLayAll0, PyData.canLay0, strs_lay ks (fun x hx => h x (List.mem_cons_of_mem _ hx)), h1]
theorem strs_depth : ∀ ks : List (List Nat), PyData.depthAll (ks.map fun k => PyData.str (S k)) ≤ 1
  | [] => by simp [PyData.depthAll]
  | k :: ks => by have := strs_depth ks; simp [PyData.depthAll, PyData.depth]; try omega
theorem strs_dp {K : PySem.W.Frag} {H : Hp} : ∀ ks : List (List Nat), DpAll K H (ks.map fun k => V.str (S k)) (ks.map fun k => PyData.str (S k))
  | [] => .nil
  | k :: ks => .cons (.str _) (strs_dp ks)
theorem r_neS {K : PySem.W.Frag} {H : Hp} {Q : VK} {a b : Addr} {ks : List (List Nat)} (hw : ∀ k ∈ ks, Wd k) (h1 : H a = some (.lst (ks.map fun k => V.str (S k)))) (h2 : H b = some (.lst [])) (q : Q (.bl (!ks.isEmpty)) H) : rNeD K (.ref a) (.ref b) H Q := by
  refine ⟨_, _, .lst (SqL.of h1) (strs_dp ks), .lst (SqL.of h2) .nil, ?_, ?_, ?_⟩
  · unfold SeqAt.shaped
    have := strs_depth ks
    simp [PyData.canLay0, PyData.depth, strs_lay ks hw]
    omega
  · unfold SeqAt.shaped
    simp only [PyData.canLay0, PyData.canLayAll0, PyData.depth, PyData.depthAll]
    rfl
  · have e : PyData.eqv (.list (ks.map fun k => PyData.str (S k))) (.list []) = ks.isEmpty := by
      cases ks with
      | nil => simp [PyData.eqv, PyData.eqvAll]
      | cons _ _ => simp [PyData.eqv, PyData.eqvAll]
    rw [e]
    exact q
/-! ### numbers or None as data -/
def natD : Option Nat → PyData
  | none => .none
  | some n => .int (n : Int)
theorem natD_dat {K : PySem.W.Frag} {z0 : Addr} {H : Hp} {o : Option Nat} (h : ∀ k, o = some k → k ≤ 1000) : Dat K z0 H (natD o) (natV o) := by
  cases o with
  | none => exact dat_non
  | some n =>
    refine dat_int ?_
    have := h n rfl
    have h2 : ((n : Int)).natAbs = n := Int.natAbs_natCast n
    rw [h2]
    refine Nat.lt_of_le_of_lt (Nat.log2_le_self n) (by omega)
theorem natD_cap (o : Option Nat) : cap (natD o) ≤ 2000 := by cases o <;> simp [natD, cap]
theorem natD_dep (o : Option Nat) : (natD o).depth = 0 := by cases o <;> simp [natD, PyData.depth]
theorem natD_dic {o : Option Nat} : (natD o).hasDict = true → noList (natD o) = true := by cases o <;> simp [natD, PyData.hasDict]
theorem cut_from1 (l : List Nat) : cutS (S l) (some 1) none = S (l.drop 1) := by
  cases l with
  | nil => rfl
  | cons c r => exact cut_from (n := 1) (by simp)
theorem asc_app {l m : List Nat} (h1 : ∀ c ∈ l, c < 128) (h2 : ∀ c ∈ m, c < 128) : ∀ c ∈ l ++ m, c < 128 := fun c hc => (List.mem_append.mp hc).elim (h1 c) (h2 c)
theorem cut_all (l : List Nat) (m : Nat) : cutS (S l) none (some (m : Int)) = S (l.take m) := by
  rw [cut_S, HT.sIx_none, HT.sIx_nat]
  rw [List.drop_zero, Nat.sub_zero]
  congr 1
  by_cases h : m ≤ l.length
  · rw [Nat.min_eq_left h]
  · rw [Nat.min_eq_right (by omega), List.take_of_length_le (Nat.le_refl _), List.take_of_length_le (by omega)]
theorem asc_up {l : List Nat} (h : ∀ c ∈ l, c < 128) : ∀ c ∈ l.map PyProof.Rows.up1, c < 128 := fun c hc => by
  obtain ⟨d, hd, rfl⟩ := List.mem_map.mp hc
  have := h d hd
  unfold PyProof.Rows.up1
  split <;> omega
end Tf

set_option Elab.async false
set_option linter.all false
set_option maxRecDepth 100000
set_option maxHeartbeats 2000000
/-! sorted(text); words in sequences -/
namespace Tf
open PySem PySem.Spec PyProof.Rows L2
def rSortTxt : List V → Hp → VK → Prop := fun xs H Q => ∃ l : List Nat, xs = [.str (S l)] ∧ l.length < 64 ∧ ∀ ys p, ys.Perm (l.map fun c => S [c]) → sortedS ys = true → H p = none → Q (.ref p) (upd H p (.lst (ys.map V.str)))
theorem cr_sortTxt {X : Cx} (hc : X.calm = true) : CallR X (.builtin "sorted") rSortTxt := by
  intro pins s σ H xs us Q I r h
  obtain ⟨l, rfl, h64, q⟩ := h
  obtain ⟨u, rfl, t, rfl⟩ := vals1 r
  have sz : (S l).cps.size = l.length := by unfold S; simp
  refine Calls.call_function_entry PyProof.Rows.kind_sorted PyProof.Rows.plain_sorted PyProof.Rows.entry_sorted (PyProof.Rows.args_sorted1 _) ?_
  unfold Builtin.«sorted»
  refine wpAny_bind (m := checkCount "sorted" 1 1 _) (wpAny_pure ?_)
  refine wpAny_bind (wpAny_collect_str (A := X.A.in1) (I.ok.hd hc) (S l) t (fun s' acc hk hg hd ho hacc => ?_) (by rw [sz, sizeLine_eq]; omega))
  have e : s' = { s with heap := s'.heap, toks := s'.toks } := by
    cases s'
    cases s
    cases hg
    cases hd
    cases ho
    rfl
  rw [e]
  generalize s'.heap = h' at hk
  generalize s'.toks = tk
  have hal : acc.toList.length = (l.map fun c => S [c]).length := by rw [Array.length_toList, hacc.1, sz, List.length_map]
  have hS : StrsAre acc.toList (l.map fun c => S [c]) := strs_at hal fun j v e => by
    obtain ⟨c, u, e1, e2⟩ := hacc.2 j v (by rw [← Array.getElem?_toList]; exact e)
    have e3 : l[j]? = some c := by simpa [S] using e1
    exact ⟨S [c], u, by rw [List.getElem?_map, e3]; rfl, e2⟩
  have I1 : Inv X pins σ H { s with heap := h', toks := tk } := I.kept hk
  have h64' : (l.map fun c => S [c]).length < 64 := by rw [List.length_map]; exact h64
  refine wpAny_bind (wpAny_newList ?_ (by rw [hal, sizeLine_eq]; omega))
  have hoL : (h'.push (seqObj "list" acc.toList.toArray 0)).get? h'.objs.size = some (seqObj "list" acc.toList.toArray 0) := Heap.get?_push_size _ rfl
  show wpAny _ _ _ _ _ { s with heap := h'.push (seqObj "list" acc.toList.toArray 0), toks := tk }
  refine wpAny_bind (wpAny_holding (wpAny_call_entry PyProof.Rows.slot_list_sort ⟨_, hoL, rfl⟩ PyProof.Rows.entry_list_sort
    (list_sort_treeK strKind_oneLt (s := { s with heap := h'.push (seqObj "list" acc.toList.toArray 0), toks := tk }) hoL hS.keysOf (fun v₁ v₂ rest e => keyKind_strs (by rw [← e]; exact hS)) (by rw [hal]; exact h64') fun st' hp hs => ⟨_, rfl, ?_⟩)
    (PyProof.Rows.args_list_sort _)))
  obtain ⟨ys, g1, g2, g3⟩ := sorted_out_str hS hp hs
  obtain ⟨e', he'⟩ := PyProof.Rows.sortedHeap_at (vs := acc.toList) (out := (arrOf st').map (·.2)) hoL
  have hlen : (ys.map V.str).length ≤ sizeLine := by
    rw [List.length_map, g2.length_eq]
    exact Nat.le_trans (Nat.le_of_lt h64') (by decide)
  refine wpAny_pure ⟨_, rfl, .ref h'.objs.size, upd H h'.objs.size (.lst (ys.map V.str)), I1.laid (t' := tk) (fun b u e => ?_) (Nat.le_refl _)
    (show ObjOk X.prog X.w _ _ _ (.lst (ys.map V.str)) from ⟨hlen, ((arrOf st').map (·.2)).toList, e', vals_of_strs g1, by rw [Array.toArray_toList]; exact he'⟩), rfl, q ys _ g2 g3 (I1.hok.fresh (Nat.le_refl _))⟩
  have hb : b < h'.objs.size := Heap.lt_size e
  rw [PyProof.Rows.sortedHeap_old (Nat.ne_of_lt hb) (by rw [size_push']; exact Nat.lt_succ_of_lt hb)]
  exact Heap.get?_push_of_some _ e
theorem sort_nfs {ys : List Str} (h : ys.Perm (([110, 102, 115] : List Nat).map fun c => S [c])) (hs : sortedS ys = true) : ys = ([102, 110, 115] : List Nat).map fun c => S [c] := by
  have hl := h.length_eq
  match ys, hl with
  | [x, y, z], _ =>
    have hx : x ∈ (([110, 102, 115] : List Nat).map fun c => S [c]) := h.mem_iff.mp (by simp)
    have hy : y ∈ (([110, 102, 115] : List Nat).map fun c => S [c]) := h.mem_iff.mp (by simp)
    have hz : z ∈ (([110, 102, 115] : List Nat).map fun c => S [c]) := h.mem_iff.mp (by simp)
    have nd : ([x, y, z] : List Str).Nodup := h.nodup_iff.mpr (by decide +kernel)
    obtain ⟨a, ha, rfl⟩ := List.mem_map.mp hx
    obtain ⟨b, hb, rfl⟩ := List.mem_map.mp hy
    obtain ⟨c, hc, rfl⟩ := List.mem_map.mp hz
    simp only [List.mem_cons, List.not_mem_nil, or_false] at ha hb hc
    rcases ha with rfl | rfl | rfl <;> rcases hb with rfl | rfl | rfl <;> rcases hc with rfl | rfl | rfl <;> first
      | rfl
      | (exfalso; revert nd; decide +kernel)
      | (exfalso; revert hs; decide +kernel)
/-! ### all words, and the first barred one -/
def wordsC : Nat → List (List Nat)
  | 0 => [[]]
  | n + 1 => [102, 110, 115].flatMap fun c => (wordsC n).map (c :: ·)
theorem wordsC_snoc : ∀ n, wordsC (n + 1) = (wordsC n).flatMap fun w => [w ++ [102], w ++ [110], w ++ [115]]
  | 0 => rfl
  | n + 1 => by
    have ih := wordsC_snoc n
    rw [show wordsC (n + 2) = [102, 110, 115].flatMap (fun c => (wordsC (n + 1)).map (c :: ·)) from rfl]
    rw [show wordsC (n + 1) = [102, 110, 115].flatMap (fun c => (wordsC n).map (c :: ·)) from rfl] at *
    rw [List.flatMap_assoc]
    refine congrArg (fun f => List.flatMap f [102, 110, 115]) (funext fun c => ?_)
    show List.map (c :: ·) ([102, 110, 115].flatMap fun c => (wordsC n).map (c :: ·)) = _
    rw [ih, List.map_flatMap, List.flatMap_map]
    rfl
theorem wordsC_eq : ∀ n, wordsF n = wordsC n
  | 0 => rfl
  | n + 1 => by rw [wordsC_snoc, ← wordsC_eq n]; rfl
theorem first_of {rs : List Row3} {o : Int → List Nat} (ho : ∀ p, o p = [102, 110, 115]) : ∀ (n : Nat) (w : List Nat), deadIn rs n w → ∃ r, ((wordsC n).map (w ++ ·)).filter (fun v => deadB rs (runF rs (firstOf rs) v)) = grd rs o n w :: r
  | 0, w, h => by
    refine ⟨[], ?_⟩
    have : deadB rs (runF rs (firstOf rs) w) = true := deadB_iff.mpr (nearG_zero.mp h)
    simp [wordsC, this, grd]
  | n + 1, w, h => by
    have ho' : ∀ p c, Fa c → c ∈ o p := fun p c hc => by
      rw [ho]
      unfold Fa at hc
      simp only [List.mem_cons, List.not_mem_nil, or_false]
      omega
    have none_of : ∀ c, ¬ deadIn rs n (w ++ [c]) → (((wordsC n).map (c :: ·)).map (w ++ ·)).filter (fun v => deadB rs (runF rs (firstOf rs) v)) = [] := fun c hc => by
      rw [List.filter_eq_nil_iff]
      intro v hv hd
      rw [List.map_map] at hv
      obtain ⟨u, hu, rfl⟩ := List.mem_map.mp hv
      rw [← wordsC_eq] at hu
      obtain ⟨h1, h2⟩ := wordsF_mem.mp hu
      refine hc ⟨u, h1, h2, ?_⟩
      have := deadB_iff.mp hd
      rw [← runF_app, List.append_assoc]
      exact this
    have some_of : ∀ c, deadIn rs n (w ++ [c]) → ∃ r, (((wordsC n).map (c :: ·)).map (w ++ ·)).filter (fun v => deadB rs (runF rs (firstOf rs) v)) = grd rs o n (w ++ [c]) :: r := fun c hc => by
      obtain ⟨r, hr⟩ := first_of ho n (w ++ [c]) hc
      refine ⟨r, ?_⟩
      rw [← hr, List.map_map]
      congr 1
      refine List.map_congr_left fun u _ => ?_
      show w ++ c :: u = w ++ [c] ++ u
      simp
    rw [show wordsC (n + 1) = (wordsC n).map (102 :: ·) ++ ((wordsC n).map (110 :: ·) ++ (wordsC n).map (115 :: ·)) by simp [wordsC]]
    rw [List.map_append, List.map_append, List.filter_append, List.filter_append]
    have hg : grd rs o (n + 1) w = grd rs o n (w ++ (pickC rs o n w).take 1) := rfl
    by_cases h1 : deadIn rs n (w ++ [102])
    · obtain ⟨r, hr⟩ := some_of 102 h1
      rw [hg, show (pickC rs o n w).take 1 = [102] by unfold pickC; rw [ho, List.filter_cons, if_pos (by simpa using h1)]; rfl, hr]
      exact ⟨_, rfl⟩
    · rw [none_of 102 h1]
      by_cases h2 : deadIn rs n (w ++ [110])
      · obtain ⟨r, hr⟩ := some_of 110 h2
        rw [hg, show (pickC rs o n w).take 1 = [110] by unfold pickC; rw [ho, List.filter_cons, if_neg (by simpa using h1), List.filter_cons, if_pos (by simpa using h2)]; rfl, hr]
        exact ⟨_, rfl⟩
      · rw [none_of 110 h2]
        have h3 : deadIn rs n (w ++ [115]) := by
          obtain ⟨c, hc, h4⟩ := nearG_succ.mp h
          have h5 : deadIn rs n (w ++ [c]) := by unfold deadIn; rw [runF_snoc]; exact h4
          rcases hc with rfl | rfl | rfl
          · exact absurd h5 h2
          · exact absurd h5 h1
          · exact h5
        obtain ⟨r, hr⟩ := some_of 115 h3
        rw [hg, show (pickC rs o n w).take 1 = [115] by unfold pickC; rw [ho, List.filter_cons, if_neg (by simpa using h1), List.filter_cons, if_neg (by simpa using h2), List.filter_cons, if_pos (by simpa using h3)]; rfl, hr]
        exact ⟨_, rfl⟩
theorem first_bar {rs : List Row3} {o : Int → List Nat} (ho : ∀ p, o p = [102, 110, 115]) {n : Nat} (h : deadIn rs n []) : ∃ r, barF rs n = grd rs o n [] :: r := by
  obtain ⟨r, hr⟩ := first_of ho n [] h
  refine ⟨r, ?_⟩
  rw [← hr, ← wordsC_eq]
  unfold barF
  simp
/-! ### counting words by the states behind them -/
theorem sum3 {α : Type} (x y z : α → Nat) : ∀ l : List α, (l.flatMap fun a => [x a, y a, z a]).sum = (l.map fun a => x a + y a + z a).sum
  | [] => rfl
  | a :: l => by
    rw [List.flatMap_cons, List.sum_append, sum3 x y z l, List.map_cons, List.sum_cons]
    simp only [List.sum_cons, List.sum_nil]
    omega
theorem words_sum {rs : List Row3} (hc : Closed rs) (ne : rs ≠ []) : ∀ (n : Nat) (g : List Nat → Nat), ((wordsF n).map fun w => g (runF rs (firstOf rs) w)).sum = wsum g (cntN rs n)
  | 0, g => by simp [wordsF, cntN, wsum, runF]
  | n + 1, g => by
    have cn := cntN_ok hc ne n
    show _ = wsum g (stepN rs (cntN rs n))
    unfold stepN
    rw [fold_sum hc g _ _ CntN.nil (fun q hq => cn.m _ (List.mem_map.mpr ⟨q, hq, rfl⟩)), ← words_sum hc ne n]
    rw [wordsF, List.map_flatMap]
    show ((wordsF n).flatMap fun a => [g (runF rs (firstOf rs) (a ++ [102])), g (runF rs (firstOf rs) (a ++ [110])), g (runF rs (firstOf rs) (a ++ [115]))]).sum = 0 + _
    rw [Nat.zero_add, sum3]
    congr 1
    refine List.map_congr_left fun w _ => ?_
    simp only [runF_snoc]
    omega
theorem live_count {rs : List Row3} (hc : Closed rs) (ne : rs ≠ []) (n : Nat) : wsum (liveW rs) (cntN rs n) + (barF rs n).length = 3 ^ n := by
  rw [← words_sum hc ne n, ← wordsF_len n]
  unfold barF
  generalize wordsF n = l
  induction l with
  | nil => rfl
  | cons w l ih =>
    rw [List.map_cons, List.sum_cons, List.filter_cons, List.length_cons]
    unfold liveW at ih ⊢
    cases hb : deadB rs (runF rs (firstOf rs) w)
    · rw [if_neg Bool.false_ne_true, if_neg Bool.false_ne_true]
      omega
    · rw [if_pos rfl, if_pos rfl, List.length_cons]
      omega
/-! ### the places of the barred words -/
theorem wordsF_perm : ∀ n, n ≤ 5 → ((wordsF n).map pl).Perm ((List.range (3 ^ n)).map fun i : Nat => (i : Int))
  | 0, _ => by decide +kernel
  | 1, _ => by decide +kernel
  | 2, _ => by decide +kernel
  | 3, _ => by decide +kernel
  | 4, _ => by decide +kernel
  | 5, _ => by decide +kernel
  | n + 6, h => absurd h (by omega)
theorem places_perm {rs : List Row3} {n : Nat} (hn : n ≤ 5) {ys : List Int} (hp : ys.Perm ((barF rs n).map pl)) (hs : ys.Pairwise (· ≤ ·)) : ys = ((List.range (3 ^ n)).filter fun i => deadB rs (runF rs (firstOf rs) (wdn n (i : Nat)))).map fun (i : Nat) => (i : Int) := by
  have nr : ((List.range (3 ^ n)).map fun i : Nat => (i : Int)).Nodup := by
    unfold List.Nodup
    rw [List.pairwise_map]
    exact List.pairwise_lt_range.imp fun h => by omega
  have n1 : ((barF rs n).map pl).Nodup := List.Sublist.nodup (List.Sublist.map _ List.filter_sublist) ((wordsF_perm n hn).nodup_iff.mpr nr)
  have s2 : (((List.range (3 ^ n)).filter fun i => deadB rs (runF rs (firstOf rs) (wdn n (i : Nat)))).map fun (i : Nat) => (i : Int)).Pairwise (· ≤ ·) := by
    rw [List.pairwise_map]
    exact (List.Pairwise.sublist List.filter_sublist List.pairwise_lt_range).imp fun h => by omega
  have n2 : (((List.range (3 ^ n)).filter fun i => deadB rs (runF rs (firstOf rs) (wdn n (i : Nat)))).map fun (i : Nat) => (i : Int)).Nodup := by
    unfold List.Nodup
    rw [List.pairwise_map]
    exact (List.Pairwise.sublist List.filter_sublist List.pairwise_lt_range).imp fun h => by omega
  have perm : ((barF rs n).map pl).Perm (((List.range (3 ^ n)).filter fun i => deadB rs (runF rs (firstOf rs) (wdn n (i : Nat)))).map fun (i : Nat) => (i : Int)) := by
    rw [List.perm_ext_iff_of_nodup n1 n2]
    intro p
    rw [List.mem_map, List.mem_map]
    constructor
    · rintro ⟨w, hw, rfl⟩
      obtain ⟨h1, h2⟩ := List.mem_filter.mp hw
      obtain ⟨h3, h4⟩ := wordsF_mem.mp h1
      have h5 := pl_nn w
      have h6 := pl_lt w
      rw [h4] at h6
      have e : ((pl w).toNat : Int) = pl w := Int.toNat_of_nonneg h5
      refine ⟨(pl w).toNat, List.mem_filter.mpr ⟨List.mem_range.mpr ?_, ?_⟩, e⟩
      · have : ((pl w).toNat : Int) < ((3 ^ n : Nat) : Int) := by rw [e, Int.natCast_pow]; exact h6
        exact Int.ofNat_lt.mp this
      · rw [e, ← h4, wdn_pl w h3]
        exact h2
    · rintro ⟨i, hi, rfl⟩
      obtain ⟨h1, h2⟩ := List.mem_filter.mp hi
      have h3 := List.mem_range.mp h1
      refine ⟨wdn n i, List.mem_filter.mpr ⟨wordsF_mem.mpr ⟨wdn_wd n i, wdn_len n i⟩, h2⟩, pl_wdn n i (Int.natCast_nonneg i) ?_⟩
      have : (i : Int) < ((3 ^ n : Nat) : Int) := Int.ofNat_lt.mpr h3
      rw [Int.natCast_pow] at this
      exact this
  exact (hp.trans perm).eq_of_pairwise (fun a b _ _ h h' => Int.le_antisymm h h') hs s2
end Tf

set_option Elab.async false
set_option linter.all false
set_option maxRecDepth 100000
set_option maxHeartbeats 4000000
set_option pp.maxSteps 400
set_option exponentiation.threshold 4000
local macro_rules | `(tactic| walk_at "rr") => `(tactic| with_reducible first
  | refine Tf.r_dget ?_ | refine Tf.r_par3 ?_ | refine Tf.r_lock ?_ | refine Tf.r_dget1 ?_ | refine Tf.r_keys ?_ | refine Tf.r_make ?_ | refine Tf.r_din ?_ | refine Tf.r_dnotin ?_ | refine Tf.r_dput ?_ | refine Tf.r_dc ?_ | refine Tf.r_rng3 ?_ | refine Tf.r_enX ?_ | refine Tf.r_slS3 ?_ | refine Tf.r_sfld ?_ | refine Tf.r_fld ?_ | refine Tf.r_iEnum ?_ | refine Tf.r_lstZip ?_ | refine Tf.r_iZipStar ?_ | refine Tf.r_iZipX ?_ | refine Tf.r_lockE ?_ | refine Tf.r_items ?_ | refine Tf.r_vals ?_ | refine Tf.r_iEnumU ?_ | refine Tf.r_iRev ?_ | refine Tf.r_dget2 ?_ | refine Tf.r_lockE ?_ | refine Tf.r_items ?_ | refine Tf.r_vals ?_ | refine Tf.r_iZipTL ?_ | refine Tf.r_tru ?_ | refine Tf.r_seq ?_ | refine Tf.r_asg ?_ | refine Tf.r_name ?_ | refine Tf.r_ret ?_ | refine Tf.r_drop ?_ | refine Tf.r_next ?_ | refine Tf.r_ifS ?_ | refine Tf.r_op ?_ | refine Tf.r_un ?_
  | refine Tf.r_c ?_ | refine Tf.r_I0 ?_ | refine Tf.r_U ?_ | refine Tf.r_cb ?_ | refine Tf.r_cons ?_ | refine Tf.r_nil ?_ | refine Tf.r_call ?_ | refine Tf.r_callN ?_ | refine Tf.r_test ?_ | refine Tf.r_B ?_
  | refine Tf.r_k ?_ | refine Tf.r_and ?_ | refine Tf.r_or ?_ | refine Tf.r_not ?_ | refine Tf.r_andV ?_ | refine Tf.r_orV ?_ | refine Tf.r_notV ?_ | refine Tf.r_if ?_ | refine Tf.r_chain ?_ | refine Tf.r_tup ?_
  | refine Tf.r_lst ?_ | refine Tf.r_par ?_ | refine Tf.r_sl ?_ | refine Tf.r_nopart ?_ | refine Tf.r_part ?_ | refine Tf.r_i ?_ | refine Tf.r_int ?_ | refine Tf.r_intb ?_ | refine Tf.r_isT ?_ | refine Tf.r_noT ?_ | refine Tf.r_isN ?_ | refine Tf.r_notN ?_ | refine Tf.r_inC ?_ | refine Tf.r_abs ?_ | refine Tf.r_max2 ?_ | refine Tf.r_min2 ?_
  | refine Tf.r_for ?_ | refine Tf.r_iStr ?_ | refine Tf.r_iList ?_ | refine Tf.r_iTup ?_ | refine Tf.r_tM1 ?_ | refine Tf.r_lc ?_ | refine Tf.r_yes ?_ | refine Tf.r_revS ?_ | refine Tf.r_notB ?_ | refine Tf.r_isB ?_ | refine Tf.r_iRng1 ?_ | refine Tf.r_iZip ?_ | refine Tf.r_iRng2 ?_ | refine Tf.r_then ?_ | refine Tf.r_gSub ?_ | refine Tf.r_lstRg ?_ | refine Tf.r_rg1 ?_ | refine Tf.r_gCons ?_ | refine Tf.r_gNil ?_ | refine Tf.r_nt ?_ | refine Tf.r_nf ?_ | refine Tf.r_true ?_ | refine Tf.r_false ?_)
local macro_rules | `(tactic| walk_at "rv") => `(tactic| ((with_reducible refine Tf.r_var (v := ?v) ?h ?_); (case' h => exact rfl)))
local macro_rules | `(tactic| walk_at "re") => `(tactic| first
  | ((with_reducible refine Tf.r_eq ?h ?_); (case' h => exact rfl)) | ((with_reducible refine Tf.r_ne ?h ?_); (case' h => exact rfl)))
local macro_rules | `(tactic| walk_at "ri") => `(tactic| first
  | ((with_reducible refine Tf.r_isiS (b := false) ?h ?_); (case' h => (show L2.kitB _ _ = some _; decide +kernel)))
  | ((with_reducible refine Tf.r_isiS (b := true) ?h ?_); (case' h => (show L2.kitB _ _ = some _; decide +kernel))))
local macro_rules | `(tactic| walk_at "r") => `(tactic| repeat (first | walk_at "rr" | walk_at "rv" | walk_at "re" | walk_at "ri"))
local macro_rules | `(tactic| walk_at "rs") => `(tactic| repeat (with_reducible first | refine Tf.r_seq ?_ | refine Tf.r_asg ?_ | refine Tf.r_name ?_ | refine Tf.r_next ?_))
local macro_rules | `(tactic| walk_at "rq") => `(tactic| with_reducible refine Tf.r_seq ?_)

namespace K23
open PySem PySem.Spec PyProof.Rows L2 Tf
def top (i : Nat) : Stmt := PySem.Challenge.pw_twofarplayers_k23_whole_least_rounds_by.main.body.getD i (.Pass ⟨0, 0, 0, 0⟩)
abbrev s_Lpot : Stmt := top 43
theorem sc_Lpot : FnScope ["script", "at", "cell", "own", "small"] ["script", "at"] (defScope s_Lpot) := ⟨rfl, rfl, rfl, by decide +kernel, rfl, by decide +kernel, by decide +kernel⟩
abbrev s_Ltake : Stmt := top 44
theorem sc_Ltake : FnScope ["pot", "upto", "prime", "blend", "digit"] ["pot", "upto"] (defScope s_Ltake) := ⟨rfl, rfl, rfl, by decide +kernel, rfl, by decide +kernel, by decide +kernel⟩
abbrev s_Lof : Stmt := top 45
theorem sc_Lof : FnScope ["pot", "some"] ["pot", "some"] (defScope s_Lof) := ⟨rfl, rfl, rfl, by decide +kernel, rfl, by decide +kernel, by decide +kernel⟩
abbrev s_Lcells : Stmt := top 46
theorem sc_Lcells : FnScope ["script", "most"] ["script", "most"] (defScope s_Lcells) := ⟨rfl, rfl, rfl, by decide +kernel, rfl, by decide +kernel, by decide +kernel⟩
abbrev s_is_name : Stmt := top 9
theorem sc_is_name : FnScope ["value", "sign"] ["value"] (defScope s_is_name) := ⟨rfl, rfl, rfl, by decide +kernel, rfl, by decide +kernel, by decide +kernel⟩
abbrev s_is_head : Stmt := top 17
theorem sc_is_head : FnScope ["at"] ["at"] (defScope s_is_head) := ⟨rfl, rfl, rfl, by decide +kernel, rfl, by decide +kernel, by decide +kernel⟩
abbrev s_last_word : Stmt := top 21
theorem sc_last_word : FnScope ["line"] ["line"] (defScope s_last_word) := ⟨rfl, rfl, rfl, by decide +kernel, rfl, by decide +kernel, by decide +kernel⟩
abbrev s_is_state : Stmt := top 19
theorem sc_is_state : FnScope ["words"] ["words"] (defScope s_is_state) := ⟨rfl, rfl, rfl, by decide +kernel, rfl, by decide +kernel, by decide +kernel⟩
abbrev s_is_way : Stmt := top 20
theorem sc_is_way : FnScope ["words", "fate"] ["words", "fate"] (defScope s_is_way) := ⟨rfl, rfl, rfl, by decide +kernel, rfl, by decide +kernel, by decide +kernel⟩
abbrev s_can_stand : Stmt := top 18
theorem sc_can_stand : FnScope ["at", "line", "names", "words"] ["at", "line", "names"] (defScope s_can_stand) := ⟨rfl, rfl, rfl, by decide +kernel, rfl, by decide +kernel, by decide +kernel⟩
abbrev s_standing_lines : Stmt := top 16
theorem sc_standing_lines : FnScope ["text", "lines", "names", "at", "line"] ["text"] (defScope s_standing_lines) := ⟨rfl, rfl, rfl, by decide +kernel, rfl, by decide +kernel, by decide +kernel⟩
abbrev s_steps_of : Stmt := top 22
theorem sc_steps_of : FnScope ["lines", "steps", "at", "name", "k", "fate"] ["lines"] (defScope s_steps_of) := ⟨rfl, rfl, rfl, by decide +kernel, rfl, by decide +kernel, by decide +kernel⟩
abbrev s_Law_init : Stmt := clsMeth (top 15) 0
theorem sc_Law_init : FnScope ["self", "text", "lines", "heads", "line", "words"] ["self", "text"] (defScope s_Law_init) := ⟨rfl, rfl, rfl, by decide +kernel, rfl, by decide +kernel, by decide +kernel⟩
abbrev s_state_behind : Stmt := top 23
theorem sc_state_behind : FnScope ["rule", "state", "word", "fate"] ["rule", "state", "word"] (defScope s_state_behind) := ⟨rfl, rfl, rfl, by decide +kernel, rfl, by decide +kernel, by decide +kernel⟩
abbrev s_ways_from : Stmt := top 24
theorem sc_ways_from : FnScope ["rule", "state", "within", "ways", "edge", "ahead", "name", "word", "fate", "goal"] ["rule", "state", "within"] (defScope s_ways_from) := ⟨rfl, rfl, rfl, by decide +kernel, rfl, by decide +kernel, by decide +kernel⟩
abbrev s_is_whole : Stmt := top 10
theorem sc_is_whole : FnScope ["value"] ["value"] (defScope s_is_whole) := ⟨rfl, rfl, rfl, by decide +kernel, rfl, by decide +kernel, by decide +kernel⟩
abbrev s_need_number : Stmt := top 11
theorem sc_need_number : FnScope ["value", "most"] ["value", "most"] (defScope s_need_number) := ⟨rfl, rfl, rfl, by decide +kernel, rfl, by decide +kernel, by decide +kernel⟩
abbrev s_place_behind : Stmt := top 29
theorem sc_place_behind : FnScope ["at", "fate"] ["at", "fate"] (defScope s_place_behind) := ⟨rfl, rfl, rfl, by decide +kernel, rfl, by decide +kernel, by decide +kernel⟩
abbrev s_width : Stmt := top 28
theorem sc_width : FnScope ["rounds", "many", "_"] ["rounds"] (defScope s_width) := ⟨rfl, rfl, rfl, by decide +kernel, rfl, by decide +kernel, by decide +kernel⟩
abbrev s_word_with : Stmt := top 30
theorem sc_word_with : FnScope ["rounds", "at", "word", "_", "ahead"] ["rounds", "at"] (defScope s_word_with) := ⟨rfl, rfl, rfl, by decide +kernel, rfl, by decide +kernel, by decide +kernel⟩
abbrev s_whole_row : Stmt := top 31
theorem sc_whole_row : FnScope ["rounds", "at"] ["rounds"] (defScope s_whole_row) := ⟨rfl, rfl, rfl, by decide +kernel, rfl, by decide +kernel, by decide +kernel⟩
abbrev s_leads_to : Stmt := top 34
theorem sc_leads_to : FnScope ["rule", "name", "goals", "goal"] ["rule", "name", "goals"] (defScope s_leads_to) := ⟨rfl, rfl, rfl, by decide +kernel, rfl, by decide +kernel, by decide +kernel⟩
abbrev s_fates_to : Stmt := top 33
theorem sc_fates_to : FnScope ["rule", "goals", "fewest", "many", "ahead", "name"] ["rule", "goals"] (defScope s_fates_to) := ⟨rfl, rfl, rfl, by decide +kernel, rfl, by decide +kernel, by decide +kernel⟩
abbrev s_living : Stmt := top 35
theorem sc_living : FnScope ["rule", "name"] ["rule"] (defScope s_living) := ⟨rfl, rfl, rfl, by decide +kernel, rfl, by decide +kernel, by decide +kernel⟩
abbrev s_fates_to_break : Stmt := top 36
theorem sc_fates_to_break : FnScope ["rule", "alive", "name"] ["rule"] (defScope s_fates_to_break) := ⟨rfl, rfl, rfl, by decide +kernel, rfl, by decide +kernel, by decide +kernel⟩
abbrev s_least_rounds : Stmt := top 39
theorem sc_least_rounds : FnScope ["rule"] ["rule"] (defScope s_least_rounds) := ⟨rfl, rfl, rfl, by decide +kernel, rfl, by decide +kernel, by decide +kernel⟩
abbrev s_first_barred : Stmt := top 37
theorem sc_first_barred : FnScope ["rule", "rounds", "sequences", "fewest", "left", "state", "word", "at", "goals", "fates", "fate"] ["rule", "rounds", "sequences"] (defScope s_first_barred) := ⟨rfl, rfl, rfl, by decide +kernel, rfl, by decide +kernel, by decide +kernel⟩
abbrev s_many_beginnings : Stmt := top 40
theorem sc_many_beginnings : FnScope ["rule", "rounds", "counts", "_", "alive", "ahead", "name", "many", "goal"] ["rule", "rounds"] (defScope s_many_beginnings) := ⟨rfl, rfl, rfl, by decide +kernel, rfl, by decide +kernel, by decide +kernel⟩
abbrev s_barred_places : Stmt := top 41
theorem sc_barred_places : FnScope ["rule", "rounds", "row", "alive", "start", "at", "word"] ["rule", "rounds"] (defScope s_barred_places) := ⟨rfl, rfl, rfl, by decide +kernel, rfl, by decide +kernel, by decide +kernel⟩
abbrev s_barred_beginning : Stmt := top 38
theorem sc_barred_beginning : FnScope ["rule", "fewest", "order"] ["rule"] (defScope s_barred_beginning) := ⟨rfl, rfl, rfl, by decide +kernel, rfl, by decide +kernel, by decide +kernel⟩
abbrev s_Llaw_drawn : Stmt := top 53
theorem sc_Llaw_drawn : FnScope ["pot", "most", "names", "found", "name", "ways", "letter"] ["pot", "most"] (defScope s_Llaw_drawn) := ⟨rfl, rfl, rfl, by decide +kernel, rfl, by decide +kernel, by decide +kernel⟩
abbrev s_Llaw_text : Stmt := top 48
theorem sc_Llaw_text : FnScope ["own", "rows", "name", "is_often", "ways", "letter"] ["own"] (defScope s_Llaw_text) := ⟨rfl, rfl, rfl, by decide +kernel, rfl, by decide +kernel, by decide +kernel⟩
abbrev s_Ldrawn : Stmt := top 61
theorem sc_Ldrawn : FnScope ["pot", "own", "at"] ["pot"] (defScope s_Ldrawn) := ⟨rfl, rfl, rfl, by decide +kernel, rfl, by decide +kernel, by decide +kernel⟩
abbrev s_Llaw_ways : Stmt := top 49
theorem sc_Llaw_ways : FnScope ["own", "name", "is_often", "ways"] ["own"] (defScope s_Llaw_ways) := ⟨rfl, rfl, rfl, by decide +kernel, rfl, by decide +kernel, by decide +kernel⟩
abbrev s_Llaw_after : Stmt := top 50
theorem sc_Llaw_after : FnScope ["own", "word", "letter", "ways", "here"] ["own", "word"] (defScope s_Llaw_after) := ⟨rfl, rfl, rfl, by decide +kernel, rfl, by decide +kernel, by decide +kernel⟩
abbrev s_Llaw_reached : Stmt := top 51
theorem sc_Llaw_reached : FnScope ["own", "start", "lap", "ways", "found", "todo", "later", "here", "letter", "other"] ["own", "start"] (defScope s_Llaw_reached) := ⟨rfl, rfl, rfl, by decide +kernel, rfl, by decide +kernel, by decide +kernel⟩
abbrev s_Llaw_living : Stmt := top 52
theorem sc_Llaw_living : FnScope ["own", "rings", "found", "name", "is_often", "ways", "one"] ["own"] (defScope s_Llaw_living) := ⟨rfl, rfl, rfl, by decide +kernel, rfl, by decide +kernel, by decide +kernel⟩
abbrev s_Lwords : Stmt := top 58
theorem sc_Lwords : FnScope ["many", "found", "lap", "later", "word", "letter"] ["many"] (defScope s_Lwords) := ⟨rfl, rfl, rfl, by decide +kernel, rfl, by decide +kernel, by decide +kernel⟩
abbrev s_Lbarred : Stmt := top 59
theorem sc_Lbarred : FnScope ["own", "many", "living_v", "word"] ["own", "many"] (defScope s_Lbarred) := ⟨rfl, rfl, rfl, by decide +kernel, rfl, by decide +kernel, by decide +kernel⟩
abbrev s_Lleast : Stmt := top 60
theorem sc_Lleast : FnScope ["own", "many", "some"] ["own"] (defScope s_Lleast) := ⟨rfl, rfl, rfl, by decide +kernel, rfl, by decide +kernel, by decide +kernel⟩
abbrev s_Lis : Stmt := top 54
theorem sc_Lis : FnScope ["told", "due", "is_fit", "one", "other"] ["told", "due"] (defScope s_Lis) := ⟨rfl, rfl, rfl, by decide +kernel, rfl, by decide +kernel, by decide +kernel⟩
abbrev s_Lis_int : Stmt := top 47
theorem sc_Lis_int : FnScope ["value", "low", "high"] ["value", "low", "high"] (defScope s_Lis_int) := ⟨rfl, rfl, rfl, by decide +kernel, rfl, by decide +kernel, by decide +kernel⟩
abbrev s_Lheard_numbers : Stmt := top 56
theorem sc_Lheard_numbers : FnScope ["word", "letter", "first", "second", "ahead"] ["word"] (defScope s_Lheard_numbers) := ⟨rfl, rfl, rfl, by decide +kernel, rfl, by decide +kernel, by decide +kernel⟩
abbrev s_Lplace : Stmt := top 57
theorem sc_Lplace : FnScope ["word"] ["word"] (defScope s_Lplace) := ⟨rfl, rfl, rfl, by decide +kernel, rfl, by decide +kernel, by decide +kernel⟩
abbrev s_Lpower : Stmt := top 55
theorem sc_Lpower : FnScope ["many", "found", "lap"] ["many"] (defScope s_Lpower) := ⟨rfl, rfl, rfl, by decide +kernel, rfl, by decide +kernel, by decide +kernel⟩
abbrev s_Lcounted : Stmt := top 62
theorem sc_Lcounted : FnScope ["own", "many", "lap", "ways", "counts", "later", "here", "much", "letter"] ["own", "many"] (defScope s_Lcounted) := ⟨rfl, rfl, rfl, by decide +kernel, rfl, by decide +kernel, by decide +kernel⟩
abbrev s_Lright : Stmt := top 63
theorem sc_Lright : FnScope ["pot", "own", "many", "given", "due", "some", "begun", "word"] ["pot"] (defScope s_Lright) := ⟨rfl, rfl, rfl, by decide +kernel, rfl, by decide +kernel, by decide +kernel⟩
abbrev s_law : Stmt := top 64
theorem sc_law : FnScope ["script", "at"] ["script"] (defScope s_law) := ⟨rfl, rfl, rfl, by decide +kernel, rfl, by decide +kernel, by decide +kernel⟩
structure Txt (K : PySem.W.Frag) (mg : Str → Option Value) : Prop where
  d_Lpot : ∃ fd, FnP K "_law_pot" s_Lpot (He.ga K "_law_pot") fd
  g__law_pot : mg "_law_pot" = some (.ref (He.ga K "_law_pot"))
  d_Ltake : ∃ fd, FnP K "_law_take" s_Ltake (He.ga K "_law_take") fd
  g__law_take : mg "_law_take" = some (.ref (He.ga K "_law_take"))
  d_Lof : ∃ fd, FnP K "_law_of" s_Lof (He.ga K "_law_of") fd
  g__law_of : mg "_law_of" = some (.ref (He.ga K "_law_of"))
  d_Lcells : ∃ fd, FnP K "_law_cells" s_Lcells (He.ga K "_law_cells") fd
  g__law_cells : mg "_law_cells" = some (.ref (He.ga K "_law_cells"))
  d_is_name : ∃ fd, FnP K "is_name" s_is_name (He.ga K "is_name") fd
  g_is_name : mg "is_name" = some (.ref (He.ga K "is_name"))
  d_is_head : ∃ fd, FnP K "is_head" s_is_head (He.ga K "is_head") fd
  g_is_head : mg "is_head" = some (.ref (He.ga K "is_head"))
  d_last_word : ∃ fd, FnP K "last_word" s_last_word (He.ga K "last_word") fd
  g_last_word : mg "last_word" = some (.ref (He.ga K "last_word"))
  d_is_state : ∃ fd, FnP K "is_state" s_is_state (He.ga K "is_state") fd
  g_is_state : mg "is_state" = some (.ref (He.ga K "is_state"))
  d_is_way : ∃ fd, FnP K "is_way" s_is_way (He.ga K "is_way") fd
  g_is_way : mg "is_way" = some (.ref (He.ga K "is_way"))
  d_can_stand : ∃ fd, FnP K "can_stand" s_can_stand (He.ga K "can_stand") fd
  g_can_stand : mg "can_stand" = some (.ref (He.ga K "can_stand"))
  d_standing_lines : ∃ fd, FnP K "standing_lines" s_standing_lines (He.ga K "standing_lines") fd
  g_standing_lines : mg "standing_lines" = some (.ref (He.ga K "standing_lines"))
  d_steps_of : ∃ fd, FnP K "steps_of" s_steps_of (He.ga K "steps_of") fd
  g_steps_of : mg "steps_of" = some (.ref (He.ga K "steps_of"))
  d_Law_init : ∃ fd, FunD K "__init__" "Law.__init__" (defArgs s_Law_init) (defBody s_Law_init) (defScope s_Law_init) [] [] (He.ma K (He.ga K "Law") "__init__") fd
  d_state_behind : ∃ fd, FnP K "state_behind" s_state_behind (He.ga K "state_behind") fd
  g_state_behind : mg "state_behind" = some (.ref (He.ga K "state_behind"))
  d_ways_from : ∃ fd, FnP K "ways_from" s_ways_from (He.ga K "ways_from") fd
  g_ways_from : mg "ways_from" = some (.ref (He.ga K "ways_from"))
  d_is_whole : ∃ fd, FnP K "is_whole" s_is_whole (He.ga K "is_whole") fd
  g_is_whole : mg "is_whole" = some (.ref (He.ga K "is_whole"))
  d_need_number : ∃ fd, FnP K "need_number" s_need_number (He.ga K "need_number") fd
  g_need_number : mg "need_number" = some (.ref (He.ga K "need_number"))
  d_place_behind : ∃ fd, FnP K "place_behind" s_place_behind (He.ga K "place_behind") fd
  g_place_behind : mg "place_behind" = some (.ref (He.ga K "place_behind"))
  d_width : ∃ fd, FnP K "width" s_width (He.ga K "width") fd
  g_width : mg "width" = some (.ref (He.ga K "width"))
  d_word_with : ∃ fd, FnP K "word_with" s_word_with (He.ga K "word_with") fd
  g_word_with : mg "word_with" = some (.ref (He.ga K "word_with"))
  d_whole_row : ∃ fd, FnP K "whole_row" s_whole_row (He.ga K "whole_row") fd
  g_whole_row : mg "whole_row" = some (.ref (He.ga K "whole_row"))
  d_leads_to : ∃ fd, FnP K "leads_to" s_leads_to (He.ga K "leads_to") fd
  g_leads_to : mg "leads_to" = some (.ref (He.ga K "leads_to"))
  d_fates_to : ∃ fd, FnP K "fates_to" s_fates_to (He.ga K "fates_to") fd
  g_fates_to : mg "fates_to" = some (.ref (He.ga K "fates_to"))
  d_living : ∃ fd, FnP K "living" s_living (He.ga K "living") fd
  g_living : mg "living" = some (.ref (He.ga K "living"))
  d_fates_to_break : ∃ fd, FnP K "fates_to_break" s_fates_to_break (He.ga K "fates_to_break") fd
  g_fates_to_break : mg "fates_to_break" = some (.ref (He.ga K "fates_to_break"))
  d_least_rounds : ∃ fd, FnP K "least_rounds" s_least_rounds (He.ga K "least_rounds") fd
  g_least_rounds : mg "least_rounds" = some (.ref (He.ga K "least_rounds"))
  d_first_barred : ∃ fd, FnP K "first_barred" s_first_barred (He.ga K "first_barred") fd
  g_first_barred : mg "first_barred" = some (.ref (He.ga K "first_barred"))
  d_many_beginnings : ∃ fd, FnP K "many_beginnings" s_many_beginnings (He.ga K "many_beginnings") fd
  g_many_beginnings : mg "many_beginnings" = some (.ref (He.ga K "many_beginnings"))
  d_barred_places : ∃ fd, FnP K "barred_places" s_barred_places (He.ga K "barred_places") fd
  g_barred_places : mg "barred_places" = some (.ref (He.ga K "barred_places"))
  d_barred_beginning : ∃ fd, FnP K "barred_beginning" s_barred_beginning (He.ga K "barred_beginning") fd
  g_barred_beginning : mg "barred_beginning" = some (.ref (He.ga K "barred_beginning"))
  d_Llaw_drawn : ∃ fd, FnP K "_law_law_drawn" s_Llaw_drawn (He.ga K "_law_law_drawn") fd
  g__law_law_drawn : mg "_law_law_drawn" = some (.ref (He.ga K "_law_law_drawn"))
  d_Llaw_text : ∃ fd, FnP K "_law_law_text" s_Llaw_text (He.ga K "_law_law_text") fd
  g__law_law_text : mg "_law_law_text" = some (.ref (He.ga K "_law_law_text"))
  d_Ldrawn : ∃ fd, FnP K "_law_drawn" s_Ldrawn (He.ga K "_law_drawn") fd
  g__law_drawn : mg "_law_drawn" = some (.ref (He.ga K "_law_drawn"))
  d_Llaw_ways : ∃ fd, FnP K "_law_law_ways" s_Llaw_ways (He.ga K "_law_law_ways") fd
  g__law_law_ways : mg "_law_law_ways" = some (.ref (He.ga K "_law_law_ways"))
  d_Llaw_after : ∃ fd, FnP K "_law_law_after" s_Llaw_after (He.ga K "_law_law_after") fd
  g__law_law_after : mg "_law_law_after" = some (.ref (He.ga K "_law_law_after"))
  d_Llaw_reached : ∃ fd, FnP K "_law_law_reached" s_Llaw_reached (He.ga K "_law_law_reached") fd
  g__law_law_reached : mg "_law_law_reached" = some (.ref (He.ga K "_law_law_reached"))
  d_Llaw_living : ∃ fd, FnP K "_law_law_living" s_Llaw_living (He.ga K "_law_law_living") fd
  g__law_law_living : mg "_law_law_living" = some (.ref (He.ga K "_law_law_living"))
  d_Lwords : ∃ fd, FnP K "_law_words" s_Lwords (He.ga K "_law_words") fd
  g__law_words : mg "_law_words" = some (.ref (He.ga K "_law_words"))
  d_Lbarred : ∃ fd, FnP K "_law_barred" s_Lbarred (He.ga K "_law_barred") fd
  g__law_barred : mg "_law_barred" = some (.ref (He.ga K "_law_barred"))
  d_Lleast : ∃ fd, FnP K "_law_least" s_Lleast (He.ga K "_law_least") fd
  g__law_least : mg "_law_least" = some (.ref (He.ga K "_law_least"))
  d_Lis : ∃ fd, FnP K "_law_is" s_Lis (He.ga K "_law_is") fd
  g__law_is : mg "_law_is" = some (.ref (He.ga K "_law_is"))
  d_Lis_int : ∃ fd, FnP K "_law_is_int" s_Lis_int (He.ga K "_law_is_int") fd
  g__law_is_int : mg "_law_is_int" = some (.ref (He.ga K "_law_is_int"))
  d_Lheard_numbers : ∃ fd, FnP K "_law_heard_numbers" s_Lheard_numbers (He.ga K "_law_heard_numbers") fd
  g__law_heard_numbers : mg "_law_heard_numbers" = some (.ref (He.ga K "_law_heard_numbers"))
  d_Lplace : ∃ fd, FnP K "_law_place" s_Lplace (He.ga K "_law_place") fd
  g__law_place : mg "_law_place" = some (.ref (He.ga K "_law_place"))
  d_Lpower : ∃ fd, FnP K "_law_power" s_Lpower (He.ga K "_law_power") fd
  g__law_power : mg "_law_power" = some (.ref (He.ga K "_law_power"))
  d_Lcounted : ∃ fd, FnP K "_law_counted" s_Lcounted (He.ga K "_law_counted") fd
  g__law_counted : mg "_law_counted" = some (.ref (He.ga K "_law_counted"))
  d_Lright : ∃ fd, FnP K "_law_right" s_Lright (He.ga K "_law_right") fd
  g__law_right : mg "_law_right" = some (.ref (He.ga K "_law_right"))
  d_law : ∃ fd, FnP K "law" s_law (He.ga K "law") fd
  g_law : mg "law" = some (.ref (He.ga K "law"))
  c_FATES : ∃ t, mg "FATES" = some (.str "nfs" t)
  c_LETTERS : ∃ t, mg "LETTERS" = some (.str "abcdefghijklmnopqrstuvwxyz" t)
  c_MOST_ROUNDS : ∃ t, mg "MOST_ROUNDS" = some (.int 200 t)
  c_MOST_LETTERS : ∃ t, mg "MOST_LETTERS" = some (.int 6 t)
  c_MOST_STATES : ∃ t, mg "MOST_STATES" = some (.int 64 t)
  c_LINES_OF_A_STATE : ∃ t, mg "LINES_OF_A_STATE" = some (.int 4 t)
  c_MOST_WHOLE : ∃ t, mg "MOST_WHOLE" = some (.int 6 t)
  c_BEHIND : mg "BEHIND" = some (.ref (He.ga K "BEHIND"))
  t_BEHIND : ∀ H : Hp, SqT K H (He.ga K "BEHIND") ([.str (S [115, 110, 102]), .str (S [102, 110, 115])] : List V)
  g_Law : mg "Law" = some (.ref (He.ga K "Law"))
  cl_Law : Cls K (He.ga K "Law")
  mk_Law : Mk K (He.ga K "Law") (He.ma K (He.ga K "Law") "__init__")
  na_Law_marked : NoAttr K (He.ga K "Law") "marked"
  na_Law_names : NoAttr K (He.ga K "Law") "names"
  na_Law_often : NoAttr K (He.ga K "Law") "often"
  na_Law_steps : NoAttr K (He.ga K "Law") "steps"
  na_Law_text : NoAttr K (He.ga K "Law") "text"
  z_abs : mg "abs" = none
  z_all : mg "all" = none
  z_any : mg "any" = none
  z_bool : mg "bool" = none
  z_dict : mg "dict" = none
  z_enumerate : mg "enumerate" = none
  z_int : mg "int" = none
  z_isinstance : mg "isinstance" = none
  z_len : mg "len" = none
  z_list : mg "list" = none
  z_max : mg "max" = none
  z_min : mg "min" = none
  z_range : mg "range" = none
  z_reversed : mg "reversed" = none
  z_sorted : mg "sorted" = none
  z_str : mg "str" = none
  z_sum : mg "sum" = none
  z_tuple : mg "tuple" = none
  z_type : mg "type" = none
  z_zip : mg "zip" = none
section
variable {P : Program} {w : World} {K : PySem.W.Frag} {mg : Str → Option Value} {base : Heap}
def kg_barred_beginning_0_rule {α : Type} (us ws : List α) : List α := ((ws.drop 0).take 1)
theorem kb_barred_beginning_0_rule {f : Addr} {fd : FuncData} (D : FnP K "barred_beginning" s_barred_beginning f fd) : KBn K fd ["rule"] 0 ["rule"] (fun us ws => kg_barred_beginning_0_rule us ws) (fun vs zs => kg_barred_beginning_0_rule vs zs) :=
  kbN D 0 ["rule"] (fun us ws => kg_barred_beginning_0_rule us ws) (fun {vs zs us ws} r1 r2 => ((r2.drop 0).take 1))
    (fun _ _ _ _ _ _ us ws h1 h2 => match us, ws, h1, h2 with | [], [_], _, _ => rfl)
def kg_barred_places_0_rounds_rule {α : Type} (us ws : List α) : List α := (((ws.drop 1).take 1) ++ ((ws.drop 0).take 1))
theorem kb_barred_places_0_rounds_rule {f : Addr} {fd : FuncData} (D : FnP K "barred_places" s_barred_places f fd) : KBn K fd ["rule", "rounds"] 0 ["rounds", "rule"] (fun us ws => kg_barred_places_0_rounds_rule us ws) (fun vs zs => kg_barred_places_0_rounds_rule vs zs) :=
  kbN D 0 ["rounds", "rule"] (fun us ws => kg_barred_places_0_rounds_rule us ws) (fun {vs zs us ws} r1 r2 => (Vals.append ((r2.drop 1).take 1) ((r2.drop 0).take 1)))
    (fun _ _ _ _ _ _ us ws h1 h2 => match us, ws, h1, h2 with | [], [_, _], _, _ => rfl)
def kg_least_rounds_0_rule {α : Type} (us ws : List α) : List α := ((ws.drop 0).take 1)
theorem kb_least_rounds_0_rule {f : Addr} {fd : FuncData} (D : FnP K "least_rounds" s_least_rounds f fd) : KBn K fd ["rule"] 0 ["rule"] (fun us ws => kg_least_rounds_0_rule us ws) (fun vs zs => kg_least_rounds_0_rule vs zs) :=
  kbN D 0 ["rule"] (fun us ws => kg_least_rounds_0_rule us ws) (fun {vs zs us ws} r1 r2 => ((r2.drop 0).take 1))
    (fun _ _ _ _ _ _ us ws h1 h2 => match us, ws, h1, h2 with | [], [_], _, _ => rfl)
def kg_many_beginnings_0_rule_rounds {α : Type} (us ws : List α) : List α := (((ws.drop 0).take 1) ++ ((ws.drop 1).take 1))
theorem kb_many_beginnings_0_rule_rounds {f : Addr} {fd : FuncData} (D : FnP K "many_beginnings" s_many_beginnings f fd) : KBn K fd ["rule", "rounds"] 0 ["rule", "rounds"] (fun us ws => kg_many_beginnings_0_rule_rounds us ws) (fun vs zs => kg_many_beginnings_0_rule_rounds vs zs) :=
  kbN D 0 ["rule", "rounds"] (fun us ws => kg_many_beginnings_0_rule_rounds us ws) (fun {vs zs us ws} r1 r2 => (Vals.append ((r2.drop 0).take 1) ((r2.drop 1).take 1)))
    (fun _ _ _ _ _ _ us ws h1 h2 => match us, ws, h1, h2 with | [], [_, _], _, _ => rfl)
def sp_Lpot (K : PySem.W.Frag) : Sp := fun vs H Q _ => ∃ (a : Addr) (ns : List Int) (i : Nat), vs = [.ref a, .int i] ∧ SqL K H a (ns.map V.int) ∧ i ≤ 10 ∧ ∀ H' p, Same H H' → H p = none → PotAt H' p 0 → Q (.ref p) H'
theorem ok_Lpot (T : Txt K mg) : Ok P w K mg base CX0 (1) "_law_pot" s_Lpot ["script", "at"] (sp_Lpot K) := by
  obtain ⟨fd, D⟩ := T.d_Lpot
  refine ⟨⟨_, fd, T.g__law_pot, D, D.bindsN (fun _ _ _ _ _ _ us hl => match us, hl with | [_, _], _ => rfl), ?_⟩⟩
  refine D.ok sc_Lpot (fun vs H Q E h => ?_) (fun cdv A outer s H vs Q E hr h => ?_)
  · obtain ⟨a, ns, i, rfl, hS, hi, q⟩ := h
    rfl
  · obtain ⟨a, ns, i, rfl, hS, hi, q⟩ := h
    refine ⟨_, PSs.nox (pss_cons (ps_set (i := 2) sc_Lpot.nd rfl (by first | exact Or.inl rfl | exact Or.inr rfl) (pe_ifExp (pt_cmpR op_lt (pv 1) (pe_callB k_lnQ (by rfl) T.z_len (by decide +kernel) (pa_cons (pv 0) pa_nil)) (nomark _)) (pe_ix ix_list (pv 0) (pv 1) (fun _ _ => rfl)) (pe_op op_add (pe_op op_add (pe_op op_mod (pe_callB (cr_sum rfl) (by rfl) T.z_sum (by decide +kernel) (pa_cons (pe_slice sl_list (pv 0) po_none (po_some pe_int)) pa_nil)) pe_int) (pe_op op_mulW pe_int (pv 1))) pe_int)))
      (pss_cons (ps_set (i := 3) sc_Lpot.nd rfl (by first | exact Or.inl rfl | exact Or.inr rfl) (pe_op op_mulW (pe_op op_mod (pe_callTy k_int (by rfl) T.z_int (by decide +kernel) (pa_cons (pe_callB k_abs (by rfl) T.z_abs (by decide +kernel) (pa_cons (pv 2) pa_nil)) pa_nil)) (pe_op op_powW (pe_op op_powW pe_int pe_int) pe_int)) (pe_callTy k_int (by rfl) T.z_int (by decide +kernel) (pa_cons (pe_cmpR op_ge (pe_callB k_abs (by rfl) T.z_abs (by decide +kernel) (pa_cons (pv 2) pa_nil)) (pe_op op_powW pe_int pe_int) (nomark _)) pa_nil))))
      (pss_cons (ps_set (i := 4) sc_Lpot.nd rfl (by first | exact Or.inl rfl | exact Or.inr rfl) (pe_op op_mod (pe_callTy k_int (by rfl) T.z_int (by decide +kernel) (pa_cons (pv 2) pa_nil)) pe_int))
      (pss_one (ps_ret (pe_lst (pa_cons (pv 3) (pa_cons (pe_op op_mod (pe_callTy k_int (by rfl) T.z_int (by decide +kernel) (pa_cons (pe_op op_add (pe_op op_add (pe_op op_mulW (pv 4) pe_int) (pe_op op_mulW (pe_op op_mulW pe_int (pv 1)) (pv 1))) pe_int) pa_nil)) pe_int) (pa_cons pe_int pa_nil))))))))), ?_⟩
    refine r_seq (r_asg (r_cut (fun x H1 => ∃ z : Int, x = .int z ∧ Same H H1) ?_ fun R fin => ?_))
    · rintro x H1 ⟨z, rfl, e⟩
      walk_at "r"
      refine r_I (cpw (by decide) (by decide) (by decide) (by decide)) ?_
      walk_at "r"
      refine r_I ⟨by decide, by decide +kernel⟩ ?_
      walk_at "r"
      refine r_I (by show (0 : Int) < _; decide +kernel) ?_
      walk_at "r"
      refine r_I (cpw (by decide) (by decide) (by decide) (by decide)) ?_
      walk_at "r"
      have hM : (0 : Int) < (10 ^ (60 : Int).toNat) ^ (5 : Int).toNat := by decide +kernel
      have hM2 : ((10 : Int) ^ (60 : Int).toNat) ^ (5 : Int).toNat < 2 ^ 1000 := by decide +kernel
      have h1 := Int.emod_nonneg (if z < 0 then -z else z) (Int.ne_of_gt hM)
      have h2 := Int.emod_lt_of_pos (if z < 0 then -z else z) hM
      generalize (if z < 0 then -z else z) % ((10 : Int) ^ (60 : Int).toNat) ^ (5 : Int).toNat = own at h1 h2 ⊢
      have h3 : own < 2 ^ 1000 := Int.lt_trans h2 hM2
      generalize hb : (decide ((10 : Int) ^ (18 : Int).toNat ≤ if z < 0 then -z else z)) = b
      have ho : ∃ o : Int, own * (if b then 1 else 0) = o ∧ 0 ≤ o ∧ o.natAbs < 2 ^ 1000 ∧ CMulW own (if b then 1 else 0) := by
        have e2 : (2 : Int) ^ 1000 ≤ 2 ^ 1100 := by decide +kernel
        have e3 : (1 : Int) < 2 ^ 1000 := by decide +kernel
        cases b
        · exact ⟨0, by simp, by decide, by decide +kernel, cmw (by omega) (by omega) (by simp) (by simp)⟩
        · exact ⟨own, by simp, h1, by omega, cmw (by omega) (by omega) (by simp) (by simp)⟩
      obtain ⟨o, ho1, ho2, ho3, ho4⟩ := ho
      refine r_I ho4 ?_
      rw [ho1]
      walk_at "r"
      refine r_I (by show (0 : Int) < _; decide) ?_
      walk_at "r"
      have s1 := Int.emod_nonneg z (show (2305843009213693951 : Int) ≠ 0 by decide)
      have s2 := Int.emod_lt_of_pos z (show (0 : Int) < 2305843009213693951 by decide)
      generalize z % 2305843009213693951 = sm at s1 s2 ⊢
      refine r_I (cms (by omega) (by omega) (by omega) (by omega)) ?_
      walk_at "r"
      refine r_I (cms (by omega) (by omega) (by omega) (by omega)) ?_
      walk_at "r"
      refine r_I (cms (by omega) (by omega) (by omega) (by omega)) ?_
      walk_at "r"
      refine r_I (by show (0 : Int) < _; decide) ?_
      walk_at "r"
      refine ⟨by show 3 ≤ sizeLine; decide, fun p hp => ?_⟩
      refine q _ p (e.trans (same_new hp)) (e.free hp) ⟨o, _, 0, upd_same, ho2, ho3, Int.emod_nonneg _ (by decide), Int.lt_trans (Int.emod_lt_of_pos _ (by decide)) (by decide), by decide, by decide⟩
    · walk_at "r"
      refine r_lnL hS ?_
      walk_at "r"
      refine r_dec (fun h => ?_) (fun h => ?_)
      · walk_at "r"
        have hi' : i < ns.length := by rw [List.length_map] at h; omega
        refine r_ixL hS (v := .int ns[i]) (atI_nat (by rw [List.getElem?_map, List.getElem?_eq_getElem hi']; rfl)) ?_
        exact fin _ _ ⟨_, rfl, Same.refl _⟩
      · walk_at "r"
        refine r_slL hS fun p hp => ?_
        walk_at "r"
        obtain ⟨ms, hms⟩ : ∃ ms : List Int, cutV (ns.map V.int) none (some 1) = ms.map V.int := by
          refine ⟨(ns.drop (HT.sIx (ns.map V.int).length 0 none)).take (HT.sIx (ns.map V.int).length (ns.map V.int).length (some 1) - HT.sIx (ns.map V.int).length 0 none), ?_⟩
          unfold cutV
          rw [List.map_take, List.map_drop]
        rw [hms]
        refine r_sum (SqL.of upd_same) ?_
        walk_at "r"
        refine r_I (by show (0 : Int) < _; decide) ?_
        walk_at "r"
        refine r_I (cms (by omega) (by omega) (by omega) (by omega)) ?_
        walk_at "r"
        exact fin _ _ ⟨_, rfl, same_new hp⟩
def sp_Ltake (K : PySem.W.Frag) : Sp := fun vs H Q _ => ∃ (a : Addr) (u c : Int), vs = [.ref a, .int u] ∧ PotAt H a c ∧ c ≤ 1000000 ∧ 0 < u ∧ u < 1073741824 ∧ ∀ H' d, But a H H' → PotAt H' a (c + 1) → 0 ≤ d → d < u → Q (.int d) H'
theorem ok_Ltake (T : Txt K mg) : Ok P w K mg base CX0 (1) "_law_take" s_Ltake ["pot", "upto"] (sp_Ltake K) := by
  obtain ⟨fd, D⟩ := T.d_Ltake
  refine ⟨⟨_, fd, T.g__law_take, D, D.bindsN (fun _ _ _ _ _ _ us hl => match us, hl with | [_, _], _ => rfl), ?_⟩⟩
  refine D.ok sc_Ltake (fun vs H Q E h => ?_) (fun cdv A outer s H vs Q E hr h => ?_)
  · obtain ⟨a, u, c, rfl, hP, hc, hu, hu2, q⟩ := h
    rfl
  · obtain ⟨a, u, c, rfl, hP, hc, hu, hu2, q⟩ := h
    refine ⟨_, PSs.nox (pss_cons (ps_if (pt_cmpR op_gt (pe_ix ix_list (pv 0) pe_int (fun _ _ => rfl)) pe_int (nomark _))
        (pss_cons (ps_set (i := 4) sc_Ltake.nd rfl (by first | exact Or.inl rfl | exact Or.inr rfl) (pe_op op_mod (pe_callTy k_int (by rfl) T.z_int (by decide +kernel) (pa_cons (pe_ix ix_list (pv 0) pe_int (fun _ _ => rfl)) pa_nil)) (pv 1)))
      (pss_cons (ps_asg (pe_op op_fdivW (pe_ix ix_list (pv 0) pe_int (fun _ _ => rfl)) (pv 1)) (pg_sub (pv 0) pe_int set_list))
      (pss_one (ps_ret (pv 4)))))
        pss_nil)
      (pss_cons (ps_asg (pe_op op_add (pe_ix ix_list (pv 0) pe_int (fun _ _ => rfl)) pe_int) (pg_sub (pv 0) pe_int set_list))
      (pss_cons (ps_set (i := 2) sc_Ltake.nd rfl (by first | exact Or.inl rfl | exact Or.inr rfl) (pe_ix ix_list (pe_lst (pa_cons pe_int (pa_cons pe_int (pa_cons pe_int (pa_cons pe_int (pa_cons pe_int pa_nil)))))) (pe_op op_mod (pe_callTy k_int (by rfl) T.z_int (by decide +kernel) (pa_cons (pe_ix ix_list (pv 0) pe_int (fun _ _ => rfl)) pa_nil)) pe_int) (fun _ _ => rfl)))
      (pss_cons (ps_set (i := 3) sc_Ltake.nd rfl (by first | exact Or.inl rfl | exact Or.inr rfl) (pe_op op_mod (pe_callTy k_int (by rfl) T.z_int (by decide +kernel) (pa_cons (pe_op op_powW (pe_callTy k_int (by rfl) T.z_int (by decide +kernel) (pa_cons (pe_op op_add (pe_op op_add (pe_ix ix_list (pv 0) pe_int (fun _ _ => rfl)) (pe_op op_mulW (pe_op op_mulW pe_int (pe_ix ix_list (pv 0) pe_int (fun _ _ => rfl))) (pe_ix ix_list (pv 0) pe_int (fun _ _ => rfl)))) pe_int) pa_nil)) pe_int) pa_nil)) (pv 2)))
      (pss_cons (ps_set (i := 3) sc_Ltake.nd rfl (by first | exact Or.inl rfl | exact Or.inr rfl) (pe_op op_mod (pe_callTy k_int (by rfl) T.z_int (by decide +kernel) (pa_cons (pe_op op_mulW (pv 3) (pe_op op_add (pe_op op_mod (pe_callTy k_int (by rfl) T.z_int (by decide +kernel) (pa_cons (pv 3) pa_nil)) pe_int) (pe_op op_mulW pe_int (pe_ix ix_list (pv 0) pe_int (fun _ _ => rfl))))) pa_nil)) pe_int))
      (pss_one (ps_ret (pe_op op_mod (pe_callTy k_int (by rfl) T.z_int (by decide +kernel) (pa_cons (pe_op op_fdivW (pv 3) pe_int) pa_nil)) (pv 1))))))))), ?_⟩
    obtain ⟨own, sd, n, hA, o1, o2, s1, s2, n1, n2⟩ := hP
    refine r_seq (Tf.s_cut (fun σ' H' => σ' = [some (.ref a), some (.int u), none, none, none] ∧ H' = H) ?_ fun R fin => ?_)
    · rintro σ' G ⟨rfl, rfl⟩
      walk_at "r"
      refine r_ixL (SqL.of hA) rfl ?_
      walk_at "r"
      refine r_setL (j := 2) hA rfl ?_
      walk_at "r"
      have hA2 : (upd G a (.lst ([V.int own, V.int sd, V.int n].set 2 (V.int (n + 1))))) a = some (.lst [.int own, .int sd, .int (n + 1)]) := upd_same
      have b2 : But a G (upd G a (.lst ([V.int own, V.int sd, V.int n].set 2 (V.int (n + 1))))) := But.put But.refl
      generalize upd G a (.lst ([V.int own, V.int sd, V.int n].set 2 (V.int (n + 1)))) = H2 at hA2 b2 ⊢
      refine ⟨by show 5 ≤ sizeLine; decide, fun p hp => ?_⟩
      have hA3 : (upd H2 p (.lst [.int 2147483647, .int 2147483629, .int 2147483587, .int 2147483579, .int 2147483563])) a = some (.lst [.int own, .int sd, .int (n + 1)]) := same_new hp _ _ hA2
      walk_at "r"
      refine r_ixL (SqL.of hA3) rfl ?_
      walk_at "r"
      refine r_I (by show (0 : Int) < _; decide) ?_
      obtain ⟨v, hv, hm⟩ := at_mem (xs := [.int 2147483647, .int 2147483629, .int 2147483587, .int 2147483579, .int 2147483563]) (i := (n + 1) % 5) (by omega) (by simp; omega)
      refine r_ixL (SqL.of upd_same) hv ?_
      obtain ⟨m, rfl, m1, m2⟩ : ∃ m : Int, v = .int m ∧ 0 < m ∧ m ≤ 2147483647 := by
        simp only [List.mem_cons, List.not_mem_nil, or_false] at hm
        rcases hm with rfl | rfl | rfl | rfl | rfl <;> exact ⟨_, rfl, by decide, by decide⟩
      have b3 := b2.trans (But.of (same_new hp (o := .lst [.int 2147483647, .int 2147483629, .int 2147483587, .int 2147483579, .int 2147483563])))
      generalize upd H2 p (.lst [.int 2147483647, .int 2147483629, .int 2147483587, .int 2147483579, .int 2147483563]) = H3 at hA3 b3 ⊢
      walk_at "r"
      refine r_ixL (SqL.of hA3) rfl ?_
      walk_at "r"
      refine r_ixL (SqL.of hA3) rfl ?_
      refine r_I (cms (by omega) (by omega) (by omega) (by omega)) ?_
      generalize hx : (_ : Int) * (n + 1) = x1
      have hx1 : 0 ≤ x1 := by omega
      have hx2 : x1 ≤ 1000000000000 := by omega
      have hx3 := mulB hx1 hx2 (show 0 ≤ n + 1 by omega) (show n + 1 ≤ 2000000 by omega) (show (1000000000000 : Int) * 2000000 ≤ 2000000000000000000 by decide)
      walk_at "r"
      refine r_ixL (SqL.of hA3) rfl ?_
      refine r_I (cms (by omega) (by omega) (by omega) (by omega)) ?_
      generalize x1 * (n + 1) = x2 at hx3 ⊢
      walk_at "r"
      refine r_I (cpw (by omega) (by omega) (by decide) (by decide)) ?_
      walk_at "r"
      refine r_I m1 ?_
      walk_at "r"
      generalize hb : (sd + x2 + _) ^ (3 : Int).toNat = cub
      have t1 := Int.emod_nonneg cub (Int.ne_of_gt m1)
      have t2 := Int.emod_lt_of_pos cub m1
      generalize cub % m = bl at t1 t2 ⊢
      refine r_I (by show (0 : Int) < _; decide) ?_
      walk_at "r"
      refine r_ixL (SqL.of hA3) rfl ?_
      refine r_I (cms (by omega) (by omega) (by omega) (by omega)) ?_
      walk_at "r"
      refine r_I (cms (by omega) (by omega) (by omega) (by omega)) ?_
      walk_at "r"
      refine r_I (by show (0 : Int) < _; decide) ?_
      walk_at "r"
      refine r_I (cdw (by decide) (by decide)) ?_
      walk_at "r"
      refine r_I hu ?_
      exact q _ _ b3 ⟨own, sd, n + 1, hA3, o1, o2, s1, s2, by omega, by omega⟩ (Int.emod_nonneg _ (by omega)) (Int.emod_lt_of_pos _ hu)
    · walk_at "r"
      refine r_ixL (SqL.of hA) rfl ?_
      walk_at "r"
      refine r_dec (fun h => ?_) (fun h => ?_)
      · walk_at "r"
        refine r_ixL (SqL.of hA) rfl ?_
        walk_at "r"
        refine r_I hu ?_
        walk_at "r"
        refine r_ixL (SqL.of hA) rfl ?_
        walk_at "r"
        refine r_I (cdw hu (by omega)) ?_
        walk_at "r"
        refine r_setL (j := 0) hA rfl ?_
        walk_at "r"
        obtain ⟨d1, d2⟩ := div_sz o1 o2 hu
        exact q _ _ (But.put But.refl) ⟨own / u, sd, n, upd_same, d1, d2, s1, s2, n1, by omega⟩ (Int.emod_nonneg _ (by omega)) (Int.emod_lt_of_pos _ hu)
      · walk_at "r"
        exact fin _ _ ⟨rfl, rfl⟩
def sp_Lof (K : PySem.W.Frag) : Sp := fun vs H Q _ => ∃ (a l : Addr) (xs : List V) (c : Int), vs = [.ref a, .ref l] ∧ PotAt H a c ∧ c ≤ 1000000 ∧ SqL K H l xs ∧ l ≠ a ∧ 0 < xs.length ∧ xs.length ≤ 1000000 ∧ ∀ H' x, But a H H' → PotAt H' a (c + 1) → x ∈ xs → Q x H'
theorem ok_Lof (T : Txt K mg) : Ok P w K mg base CX0 (2) "_law_of" s_Lof ["pot", "some"] (sp_Lof K) := by
  obtain ⟨fd, D⟩ := T.d_Lof
  refine ⟨⟨_, fd, T.g__law_of, D, D.bindsN (fun _ _ _ _ _ _ us hl => match us, hl with | [_, _], _ => rfl), ?_⟩⟩
  refine D.ok sc_Lof (fun vs H Q E h => ?_) (fun cdv A outer s H vs Q E hr h => ?_)
  · obtain ⟨a, l, xs, c, rfl, hP, hc, hl, hla, h0, hz, q⟩ := h
    rfl
  · obtain ⟨a, l, xs, c, rfl, hP, hc, hl, hla, h0, hz, q⟩ := h
    have F_Ltake := ok_Ltake (P := P) (w := w) (K := K) (mg := mg) (base := base) T
    refine ⟨_, PSs.nox (pss_one (ps_ret (pe_ix ix_list (pv 1) (pe_cl F_Ltake hr (by rfl) pass0 (pa_cons (pv 0) (pa_cons (pe_callB k_lnQ (by rfl) T.z_len (by decide +kernel) (pa_cons (pv 1) pa_nil)) pa_nil))) (fun _ _ => rfl)))), ?_⟩
    walk_at "r"
    refine r_lnL hl ?_
    walk_at "r"
    refine ⟨a, xs.length, c, rfl, hP, hc, by omega, by omega, fun H' d b p d0 d1 => ?_⟩
    obtain ⟨v, hv, hm⟩ := at_mem (xs := xs) d0 d1
    exact r_ixL (b.sql hla hl) hv (q _ _ b p hm)
def sp_Lcells (K : PySem.W.Frag) : Sp := fun vs H Q _ => ∃ (a : Addr) (xs : List V) (m : Int), vs = [.ref a, .int m] ∧ SqL K H a xs ∧ 1 ≤ m ∧ m ≤ 10 ∧ ∀ H' p (n : Nat), Same H H' → n ≤ 10 → H' p = some (.lst ((List.range n).map fun i : Nat => V.int i)) → Q (.ref p) H'
theorem ok_Lcells (T : Txt K mg) : Ok P w K mg base CX0 (1) "_law_cells" s_Lcells ["script", "most"] (sp_Lcells K) := by
  obtain ⟨fd, D⟩ := T.d_Lcells
  refine ⟨⟨_, fd, T.g__law_cells, D, D.bindsN (fun _ _ _ _ _ _ us hl => match us, hl with | [_, _], _ => rfl), ?_⟩⟩
  refine D.ok sc_Lcells (fun vs H Q E h => ?_) (fun cdv A outer s H vs Q E hr h => ?_)
  · obtain ⟨a, xs, m, rfl, hS, h1, h2, q⟩ := h
    rfl
  · obtain ⟨a, xs, m, rfl, hS, h1, h2, q⟩ := h
    refine ⟨_, PSs.nox (pss_one (ps_ret (pe_listRg rfl (by rfl) T.z_list (prg_1 (by rfl) T.z_range (pe_callB (k_max2 rfl) (by rfl) T.z_max (by decide +kernel) (pa_cons pe_int (pa_cons (pe_callB (k_min2 rfl) (by rfl) T.z_min (by decide +kernel) (pa_cons (pv 1) (pa_cons (pe_callB k_lnQ (by rfl) T.z_len (by decide +kernel) (pa_cons (pv 0) pa_nil)) pa_nil))) pa_nil))))))), ?_⟩
    walk_at "r"
    refine r_lnL hS ?_
    walk_at "r"
    generalize hk : (if (1 : Int) < (if (xs.length : Int) < m then (xs.length : Int) else m) then (if (xs.length : Int) < m then (xs.length : Int) else m) else 1) = k
    have k1 : 1 ≤ k ∧ k ≤ 10 := by
      subst hk
      split <;> split <;> omega
    refine ⟨RgOk.of_le (by decide) (by omega) (by decide) (by omega), fun p hp => ?_⟩
    refine q _ p k.toNat (same_new hp) (by omega) ?_
    rw [upd_same]
    unfold rgV
    congr 2
    simp

def sp_is_name (K : PySem.W.Frag) : Sp := fun vs H Q _ => ∃ l : List Nat, vs = [.str (S l)] ∧ Nm l ∧ ∀ H', Same H H' → Q (.bl true) H'
theorem ok_is_name (T : Txt K mg) : Ok P w K mg base CX0 (1) "is_name" s_is_name ["value"] (sp_is_name K) := by
  obtain ⟨fd, D⟩ := T.d_is_name
  refine ⟨⟨_, fd, T.g_is_name, D, D.bindsN (fun _ _ _ _ _ _ us hl => match us, hl with | [_], _ => rfl), ?_⟩⟩
  refine D.ok sc_is_name (fun vs H Q E h => ?_) (fun cdv A outer s H vs Q E hr h => ?_)
  · obtain ⟨l, rfl, hn, q⟩ := h
    rfl
  · obtain ⟨l, rfl, hn, q⟩ := h
    refine ⟨_, PSs.nox (pss_one (ps_ret (pe_and (pe_cmpR o_isT (pe_callTy call_type1 (by rfl) T.z_type (by decide +kernel) (pa_cons (pv 0) pa_nil)) (pe_bltn (v := .ty "str") (by rfl) T.z_str (by decide +kernel) rfl) (nomark _)) (pe_and (pe_chain op_le op_le pe_int (pe_callB k_lnS (by rfl) T.z_len (by decide +kernel) (pa_cons (pv 0) pa_nil)) (pe_gint (by rfl) T.c_MOST_LETTERS)) (pe_one (pe_callB (cr_all rfl) (by rfl) T.z_all (by decide +kernel) (pa_cons (pe_lc (own := [("sign", 1)]) (g := gName 1) (tt := tYes) rfl sc_is_name.nd (pi_str (pv 0)) (blkOk_by (N := ["value", "sign"]) (sc := defScope s_is_name) (by decide +kernel)) (fun _ _ _ _ _ => (pg_name (i := 1) sc_is_name.nd rfl (by first | exact Or.inl rfl | exact Or.inr rfl))) (fun _ _ _ _ _ => pts_nil) (fun _ _ _ _ _ => (pe_cmpR o_inC (pv 1) (pe_gstrS [97, 98, 99, 100, 101, 102, 103, 104, 105, 106, 107, 108, 109, 110, 111, 112, 113, 114, 115, 116, 117, 118, 119, 120, 121, 122] (by rfl) (by rfl) T.c_LETTERS) (by rfl)))) pa_nil))))))), ?_⟩
    walk_at "r"
    have h1 := hn.1
    have h2 := hn.2.1
    refine r_typ (.str _) ?_
    walk_at "r"
    refine r_yesD rfl ?_
    walk_at "r"
    refine r_lnT (l := l) (by omega) ?_
    walk_at "r"
    refine r_yesD (by omega) ?_
    walk_at "r"
    refine r_yesD (by omega) ?_
    walk_at "r"
    refine ⟨_, rfl, fun D hD => lcS_true (l := l) hD (by omega) (fun i c H' e e' R hR => ?_) fun H' e e' => ?_⟩
    · walk_at "r"
      refine ⟨rfl, ?_⟩
      walk_at "r"
      have hc := hn.2.2 c (List.mem_of_getElem? e)
      have m : c ∈ [97, 98, 99, 100, 101, 102, 103, 104, 105, 106, 107, 108, 109, 110, 111, 112, 113, 114, 115, 116, 117, 118, 119, 120, 121, 122] := by
        simp only [List.mem_cons, List.not_mem_nil, or_false]
        omega
      rw [decide_eq_true m]
      exact hR _ (Same.refl _)
    · walk_at "r"
      exact r_allT e' (q _ e)
def sp_is_head (K : PySem.W.Frag) : Sp := fun vs H Q _ => ∃ n : Nat, vs = [.int n] ∧ n ≤ 1000 ∧ ∀ H', Same H H' → Q (.bl (decide (n % 4 = 1))) H'
theorem ok_is_head (T : Txt K mg) : Ok P w K mg base CX0 (1) "is_head" s_is_head ["at"] (sp_is_head K) := by
  obtain ⟨fd, D⟩ := T.d_is_head
  refine ⟨⟨_, fd, T.g_is_head, D, D.bindsN (fun _ _ _ _ _ _ us hl => match us, hl with | [_], _ => rfl), ?_⟩⟩
  refine D.ok sc_is_head (fun vs H Q E h => ?_) (fun cdv A outer s H vs Q E hr h => ?_)
  · obtain ⟨n, rfl, hn, q⟩ := h
    rfl
  · obtain ⟨n, rfl, hn, q⟩ := h
    refine ⟨_, PSs.nox (pss_one (ps_ret (pe_cmpR op_eq (pe_op op_mod (pv 0) (pe_gint (by rfl) T.c_LINES_OF_A_STATE)) pe_int (nomark _)))), ?_⟩
    walk_at "r"
    refine ⟨_, _, rfl, rfl, by show (0 : Int) < 4; decide, ?_⟩
    walk_at "r"
    show Q (.bl (decide (V.int ((n : Int) % 4) = V.int 1))) H
    have := q H (Same.refl _)
    have e : decide (V.int ((n : Int) % 4) = V.int 1) = decide (n % 4 = 1) := by
      rw [Bool.eq_iff_iff, decide_eq_true_eq, decide_eq_true_eq]
      exact ⟨fun h => by have := V.int.inj h; omega, fun h => by congr 1; omega⟩
    rw [e]
    exact this
def sp_last_word (K : PySem.W.Frag) : Sp := fun vs H Q _ => ∃ (l w : List Nat) (ws : List (List Nat)), vs = [.str (S l)] ∧ Txt.split (S l) (S [32]) = (ws ++ [w]).map S ∧ l.length ≤ 100 ∧ ∀ H', Same H H' → Q (.str (S w)) H'
theorem ok_last_word (T : Txt K mg) : Ok P w K mg base CX0 (1) "last_word" s_last_word ["line"] (sp_last_word K) := by
  obtain ⟨fd, D⟩ := T.d_last_word
  refine ⟨⟨_, fd, T.g_last_word, D, D.bindsN (fun _ _ _ _ _ _ us hl => match us, hl with | [_], _ => rfl), ?_⟩⟩
  refine D.ok sc_last_word (fun vs H Q E h => ?_) (fun cdv A outer s H vs Q E hr h => ?_)
  · obtain ⟨l, w2, ws, rfl, hs, hl, q⟩ := h
    rfl
  · obtain ⟨l, w2, ws, rfl, hs, hl, q⟩ := h
    refine ⟨_, PSs.nox (pss_one (ps_ret (pe_ix ix_list (pe_split (pv 0) (pe_strS [32] (by rfl))) (pe_un un_neg pe_int) (fun _ _ => rfl)))), ?_⟩
    walk_at "r"
    refine ⟨⟨_, rfl⟩, ?_⟩
    walk_at "r"
    refine ⟨_, _, rfl, rfl, rfl, by rw [S_len]; exact lt_line (by omega), ?_⟩
    rw [hs]
    refine r_newS fun H1 p s1 _ h1 => ?_
    walk_at "r"
    refine r_ixL (SqL.of h1) (by rw [List.map_append]; exact atI_last _ _) ?_
    exact q _ s1
def sp_is_state (K : PySem.W.Frag) : Sp := fun vs H Q _ => ∃ p r, vs = [.ref p] ∧ H p = some (.lst ((stW r).map fun l => V.str (S l))) ∧ Nm r.nm ∧ ∀ H', Same H H' → Q (.bl true) H'
theorem ok_is_state (T : Txt K mg) : Ok P w K mg base CX0 (2) "is_state" s_is_state ["words"] (sp_is_state K) := by
  obtain ⟨fd, D⟩ := T.d_is_state
  refine ⟨⟨_, fd, T.g_is_state, D, D.bindsN (fun _ _ _ _ _ _ us hl => match us, hl with | [_], _ => rfl), ?_⟩⟩
  refine D.ok sc_is_state (fun vs H Q E h => ?_) (fun cdv A outer s H vs Q E hr h => ?_)
  · obtain ⟨p, r, rfl, hp, hn, q⟩ := h
    rfl
  · obtain ⟨p, r, rfl, hp, hn, q⟩ := h
    have F_is_name := ok_is_name (P := P) (w := w) (K := K) (mg := mg) (base := base) T
    refine ⟨_, PSs.nox (pss_cons (ps_if (PW.pt (pw_and (pt_cmpR op_eq (pe_callB k_lnQ (by rfl) T.z_len (by decide +kernel) (pa_cons (pv 0) pa_nil)) pe_int (nomark _)) (pw_and1 (pt_cmpR op_ne (pe_ix ix_list (pv 0) pe_int (fun _ _ => rfl)) (pe_strS [111, 102, 116, 101, 110] (by rfl)) (nomark _)))))
        (pss_one (ps_ret pe_bl))
        pss_nil)
      (pss_one (ps_ret (pe_and (pe_chain op_le op_le pe_int (pe_callB k_lnQ (by rfl) T.z_len (by decide +kernel) (pa_cons (pv 0) pa_nil)) pe_int) (pe_and (pe_cmpR op_eq (pe_ix ix_list (pv 0) pe_int (fun _ _ => rfl)) (pe_strS [115, 116, 97, 116, 101] (by rfl)) (nomark _)) (pe_one (pe_cl F_is_name hr (by rfl) pass0 (pa_cons (pe_ix ix_list (pv 0) pe_int (fun _ _ => rfl)) pa_nil)))))))), ?_⟩
    walk_at "r"
    refine r_lnL (SqL.of hp) ?_
    walk_at "r"
    rw [stW_len]
    cases ho : r.oft
    · rw [stW_f ho] at hp
      walk_at "r"
      refine r_lnL (SqL.of hp) ?_
      walk_at "r"
      refine r_yesD (by show (2 : Int) ≤ 2; decide) ?_
      walk_at "r"
      refine r_yesD (by show (2 : Int) ≤ 3; decide) ?_
      walk_at "r"
      refine r_ixL (SqL.of hp) (words_at (j := 0) rfl) ?_
      walk_at "r"
      refine r_yesD rfl ?_
      walk_at "r"
      refine r_ixL (SqL.of hp) (words_at (j := 1) rfl) ?_
      walk_at "r"
      exact ⟨_, rfl, hn, q⟩
    · rw [stW_t ho] at hp
      walk_at "r"
      refine r_ixL (SqL.of hp) (words_at (j := 2) rfl) ?_
      walk_at "r"
      rw [decide_eq_true rfl]
      walk_at "r"
      refine r_lnL (SqL.of hp) ?_
      walk_at "r"
      refine r_yesD (by show (2 : Int) ≤ 3; decide) ?_
      walk_at "r"
      refine r_yesD (by show (3 : Int) ≤ 3; decide) ?_
      walk_at "r"
      refine r_ixL (SqL.of hp) (words_at (j := 0) rfl) ?_
      walk_at "r"
      refine r_yesD rfl ?_
      walk_at "r"
      refine r_ixL (SqL.of hp) (words_at (j := 1) rfl) ?_
      walk_at "r"
      exact ⟨_, rfl, hn, q⟩
def sp_is_way (K : PySem.W.Frag) : Sp := fun vs H Q _ => ∃ p c w, vs = [.ref p, .str (S [c])] ∧ H p = some (.lst ((onW c w).map fun l => V.str (S l))) ∧ (c = 110 ∨ c = 102 ∨ c = 115) ∧ Nm w ∧ ∀ H', Same H H' → Q (.bl true) H'
theorem ok_is_way (T : Txt K mg) : Ok P w K mg base CX0 (2) "is_way" s_is_way ["words", "fate"] (sp_is_way K) := by
  obtain ⟨fd, D⟩ := T.d_is_way
  refine ⟨⟨_, fd, T.g_is_way, D, D.bindsN (fun _ _ _ _ _ _ us hl => match us, hl with | [_, _], _ => rfl), ?_⟩⟩
  refine D.ok sc_is_way (fun vs H Q E h => ?_) (fun cdv A outer s H vs Q E hr h => ?_)
  · obtain ⟨p, c, w2, rfl, hp, hc, hn, q⟩ := h
    rfl
  · obtain ⟨p, c, w2, rfl, hp, hc, hn, q⟩ := h
    have F_is_name := ok_is_name (P := P) (w := w) (K := K) (mg := mg) (base := base) T
    refine ⟨_, PSs.nox (pss_one (ps_ret (pe_and (pe_cmpR op_eq (pe_callB k_lnQ (by rfl) T.z_len (by decide +kernel) (pa_cons (pv 0) pa_nil)) pe_int (nomark _)) (pe_and (pe_cmpR op_eq (pe_ix ix_list (pv 0) pe_int (fun _ _ => rfl)) (pe_strS [111, 110] (by rfl)) (nomark _)) (pe_and (pe_cmpR op_eq (pe_ix ix_list (pv 0) pe_int (fun _ _ => rfl)) (pv 1) (nomark _)) (pe_one (pe_cl F_is_name hr (by rfl) pass0 (pa_cons (pe_ix ix_list (pv 0) pe_int (fun _ _ => rfl)) pa_nil)))))))), ?_⟩
    walk_at "r"
    refine r_lnL (SqL.of hp) ?_
    walk_at "r"
    refine r_yesD (c := V.int (((onW c w2).map fun l => V.str (S l)).length : Int) = V.int 3) rfl ?_
    unfold onW at hp
    walk_at "r"
    refine r_ixL (SqL.of hp) (words_at (j := 0) rfl) ?_
    walk_at "r"
    refine r_yesD rfl ?_
    walk_at "r"
    refine r_ixL (SqL.of hp) (words_at (j := 1) rfl) ?_
    walk_at "r"
    refine r_yesD rfl ?_
    walk_at "r"
    refine r_ixL (SqL.of hp) (words_at (j := 2) rfl) ?_
    walk_at "r"
    exact ⟨_, rfl, hn, q⟩
def sp_can_stand (K : PySem.W.Frag) : Sp := fun vs H Q _ => ∃ (n : Nat) (l : List Nat) (p : Addr) (rs : List Tf.Row3), vs = [.int n, .str (S l), .ref p] ∧ LawG rs ∧ (linesF rs)[n]? = some l ∧ H p = some (.lst (((rs.take ((n + 2) / 4)).map (·.nm)).map fun l => V.str (S l))) ∧ ∀ H', Same H H' → Q (.bl true) H'
theorem ok_can_stand (T : Txt K mg) : Ok P w K mg base CX0 (3) "can_stand" s_can_stand ["at", "line", "names"] (sp_can_stand K) := by
  obtain ⟨fd, D⟩ := T.d_can_stand
  refine ⟨⟨_, fd, T.g_can_stand, D, D.bindsN (fun _ _ _ _ _ _ us hl => match us, hl with | [_, _, _], _ => rfl), ?_⟩⟩
  refine D.ok sc_can_stand (fun vs H Q E h => ?_) (fun cdv A outer s H vs Q E hr h => ?_)
  · obtain ⟨n, l, p, rs, rfl, hg, hl, hp, q⟩ := h
    rfl
  · obtain ⟨n, l, p, rs, rfl, hg, hl, hp, q⟩ := h
    have F_is_head := ok_is_head (P := P) (w := w) (K := K) (mg := mg) (base := base) T
    have F_is_way := ok_is_way (P := P) (w := w) (K := K) (mg := mg) (base := base) T
    have F_is_state := ok_is_state (P := P) (w := w) (K := K) (mg := mg) (base := base) T
    refine ⟨_, PSs.nox (pss_cons (ps_set (i := 3) sc_can_stand.nd rfl (by first | exact Or.inl rfl | exact Or.inr rfl) (pe_split (pv 1) (pe_strS [32] (by rfl))))
      (pss_cons (ps_if (pt_cmpR op_eq (pv 0) pe_int (nomark _))
        (pss_one (ps_ret (pe_cmpR op_eq (pv 1) (pe_strS [108, 97, 119] (by rfl)) (nomark _))))
        pss_nil)
      (pss_cons (ps_if (pt_val (pe_cl F_is_head hr (by rfl) pass0 (pa_cons (pv 0) pa_nil)))
        (pss_one (ps_ret (pe_and (pe_cl F_is_state hr (by rfl) pass0 (pa_cons (pv 3) pa_nil)) (pe_and (pe_cmpR op_notIn_seq (pe_ix ix_list (pv 3) pe_int (fun _ _ => rfl)) (pv 2) (by rfl)) (pe_one (pe_cmpR op_lt (pe_callB k_lnQ (by rfl) T.z_len (by decide +kernel) (pa_cons (pv 2) pa_nil)) (pe_gint (by rfl) T.c_MOST_STATES) (nomark _)))))))
        pss_nil)
      (pss_one (ps_ret (pe_cl F_is_way hr (by rfl) pass0 (pa_cons (pv 3) (pa_cons (pe_ix ix_str (pe_gstrS [110, 102, 115] (by rfl) (by rfl) T.c_FATES) (pe_op op_mod (pe_op op_sub (pv 0) pe_int) (pe_gint (by rfl) T.c_LINES_OF_A_STATE)) (fun _ _ => rfl)) pa_nil)))))))), ?_⟩
    have hlen := line_short hg (List.mem_of_getElem? hl)
    walk_at "r"
    refine ⟨⟨_, rfl⟩, ?_⟩
    walk_at "r"
    refine ⟨_, _, rfl, rfl, rfl, by rw [S_len]; exact lt_line (by omega), ?_⟩
    rcases lines_at hl with ⟨rfl, rfl⟩ | ⟨k, r, j, rfl, hj, er, hr⟩
    · rw [law_split]
      refine r_newS fun H1 w1 s1 _ h1 => ?_
      walk_at "r"
      refine r_yesD rfl ?_
      walk_at "r"
      exact q _ s1
    · have hm := List.mem_of_getElem? er
      have nm := hg.nm r hm
      have hk : k < rs.length := (List.getElem?_eq_some_iff.mp er).1
      have h0 : 4 * k + j + 1 ≠ 0 := by omega
      have hz := hg.len
      match j, hj, hr with
      | 0, _, hr =>
        cases hr
        rw [stL_split nm]
        refine r_newS fun H1 w1 s1 _ h1 => ?_
        walk_at "r"
        refine r_noD (vi_ne (by omega)) ?_
        walk_at "r"
        refine ⟨4 * k + 0 + 1, rfl, by omega, fun H2 s2 => ?_⟩
        walk_at "r"
        refine r_yesD (by omega) ?_
        walk_at "r"
        refine ⟨w1, r, rfl, s2 _ _ h1, nm, fun H3 s3 => ?_⟩
        walk_at "r"
        have sA := Same.trans (Same.trans s1 s2) s3
        refine r_ixL (SqL.of (s3 _ _ (s2 _ _ h1))) (words_at (j := 1) (stW_1 r)) ?_
        walk_at "r"
        refine r_notInNm (.inl (SqL.of (sA _ _ hp))) ?_
        rw [seen_head, decide_eq_false (nm_not hg.u er)]
        refine ⟨_, rfl, r_nf ?_⟩
        walk_at "r"
        have hsz : ((rs.take k).map (·.nm)).length < 64 := by rw [List.length_map, List.length_take]; omega
        rw [seen_head] at hp
        refine r_lnL (SqL.of (sA _ _ hp)) ?_
        walk_at "r"
        rw [decide_eq_true (by rw [List.length_map]; omega)]
        exact q _ sA
      | 1, _, hr =>
        cases hr
        rw [onL_split (.inl rfl) (hg.way hm (.inl rfl))]
        refine r_newS fun H1 w1 s1 _ h1 => ?_
        walk_at "r"
        refine r_noD (vi_ne (by omega)) ?_
        walk_at "r"
        refine ⟨4 * k + 1 + 1, rfl, by omega, fun H2 s2 => ?_⟩
        walk_at "r"
        refine r_noD (by omega) ?_
        walk_at "r"
        refine ⟨_, _, rfl, rfl, by show (0 : Int) < 4; decide, ?_⟩
        show rIxS _ (V.int (((4 * k + 1 + 1 : Nat) - 2 : Int) % 4)) _ _
        rw [show (((4 * k + 1 + 1 : Nat) - 2 : Int) % 4) = ((0 : Nat) : Int) by omega]
        refine r_ixS (by decide) (atI_nat (j := 0) rfl) ?_
        walk_at "r"
        exact ⟨w1, 110, _, rfl, s2 _ _ h1, .inl rfl, hg.way hm (.inl rfl), fun H3 s3 => q _ (Same.trans (Same.trans s1 s2) s3)⟩
      | 2, _, hr =>
        cases hr
        rw [onL_split (.inr (.inl rfl)) (hg.way hm (.inr (.inl rfl)))]
        refine r_newS fun H1 w1 s1 _ h1 => ?_
        walk_at "r"
        refine r_noD (vi_ne (by omega)) ?_
        walk_at "r"
        refine ⟨4 * k + 2 + 1, rfl, by omega, fun H2 s2 => ?_⟩
        walk_at "r"
        refine r_noD (by omega) ?_
        walk_at "r"
        refine ⟨_, _, rfl, rfl, by show (0 : Int) < 4; decide, ?_⟩
        show rIxS _ (V.int (((4 * k + 2 + 1 : Nat) - 2 : Int) % 4)) _ _
        rw [show (((4 * k + 2 + 1 : Nat) - 2 : Int) % 4) = ((1 : Nat) : Int) by omega]
        refine r_ixS (by decide) (atI_nat (j := 1) rfl) ?_
        walk_at "r"
        exact ⟨w1, 102, _, rfl, s2 _ _ h1, .inr (.inl rfl), hg.way hm (.inr (.inl rfl)), fun H3 s3 => q _ (Same.trans (Same.trans s1 s2) s3)⟩
      | 3, _, hr =>
        cases hr
        rw [onL_split (.inr (.inr rfl)) (hg.way hm (.inr (.inr rfl)))]
        refine r_newS fun H1 w1 s1 _ h1 => ?_
        walk_at "r"
        refine r_noD (vi_ne (by omega)) ?_
        walk_at "r"
        refine ⟨4 * k + 3 + 1, rfl, by omega, fun H2 s2 => ?_⟩
        walk_at "r"
        refine r_noD (by omega) ?_
        walk_at "r"
        refine ⟨_, _, rfl, rfl, by show (0 : Int) < 4; decide, ?_⟩
        show rIxS _ (V.int (((4 * k + 3 + 1 : Nat) - 2 : Int) % 4)) _ _
        rw [show (((4 * k + 3 + 1 : Nat) - 2 : Int) % 4) = ((2 : Nat) : Int) by omega]
        refine r_ixS (by decide) (atI_nat (j := 2) rfl) ?_
        walk_at "r"
        exact ⟨w1, 115, _, rfl, s2 _ _ h1, .inr (.inr rfl), hg.way hm (.inr (.inr rfl)), fun H3 s3 => q _ (Same.trans (Same.trans s1 s2) s3)⟩
def sp_standing_lines (K : PySem.W.Frag) : Sp := fun vs H Q _ => ∃ rs, vs = [.str (textF rs)] ∧ LawG rs ∧ ∀ H' p, Same H H' → H' p = some (.lst ((linesF rs).map fun l => V.str (S l))) → Q (.ref p) H'
theorem ok_standing_lines (T : Txt K mg) : Ok P w K mg base CX0 (4) "standing_lines" s_standing_lines ["text"] (sp_standing_lines K) := by
  obtain ⟨fd, D⟩ := T.d_standing_lines
  refine ⟨⟨_, fd, T.g_standing_lines, D, D.bindsN (fun _ _ _ _ _ _ us hl => match us, hl with | [_], _ => rfl), ?_⟩⟩
  refine D.ok sc_standing_lines (fun vs H Q E h => ?_) (fun cdv A outer s H vs Q E hr h => ?_)
  · obtain ⟨rs, rfl, hg, q⟩ := h
    rfl
  · obtain ⟨rs, rfl, hg, q⟩ := h
    have F_is_head := ok_is_head (P := P) (w := w) (K := K) (mg := mg) (base := base) T
    have F_can_stand := ok_can_stand (P := P) (w := w) (K := K) (mg := mg) (base := base) T
    have F_last_word := ok_last_word (P := P) (w := w) (K := K) (mg := mg) (base := base) T
    refine ⟨_, PSs.nox (pss_cons (ps_if (pt_cmpR o_noT (pe_callTy call_type1 (by rfl) T.z_type (by decide +kernel) (pa_cons (pv 0) pa_nil)) (pe_bltn (v := .ty "str") (by rfl) T.z_str (by decide +kernel) rfl) (nomark _))
        (pss_one ps_never)
        pss_nil)
      (pss_cons (ps_set (i := 1) sc_standing_lines.nd rfl (by first | exact Or.inl rfl | exact Or.inr rfl) (pe_split (pv 0) (pe_strS [10] (by rfl))))
      (pss_cons (ps_set (i := 2) sc_standing_lines.nd rfl (by first | exact Or.inl rfl | exact Or.inr rfl) (pe_lst pa_nil))
      (pss_cons (ps_for PassesOwn.never rfl (pi_enum (by rfl) T.z_enumerate (pa_cons (pv 1) pa_nil)) (pg_tup rfl (pgs_cons (pg_name (i := 3) sc_standing_lines.nd rfl (by first | exact Or.inl rfl | exact Or.inr rfl)) (pgs_cons (pg_name (i := 4) sc_standing_lines.nd rfl (by first | exact Or.inl rfl | exact Or.inr rfl)) pgs_nil)))
        (pss_cons (ps_if (pt_not (pt_val (pe_cl F_can_stand hr (by rfl) pass0 (pa_cons (pv 3) (pa_cons (pv 4) (pa_cons (pv 2) pa_nil))))))
        (pss_one ps_never)
        pss_nil)
      (pss_one (ps_if (pt_val (pe_cl F_is_head hr (by rfl) pass0 (pa_cons (pv 3) pa_nil)))
        (pss_one (ps_expr (pe_bm PySem.F.plainAttrs_list PySem.F.slot_list_append PySem.F.type_list_append mt_append (pv 2) (pa_cons (pe_ix ix_list (pe_split (pv 4) (pe_strS [32] (by rfl))) pe_int (fun _ _ => rfl)) pa_nil))))
        pss_nil))))
      (pss_cons (ps_if (PW.pt (pw_or (pt_not (pt_truth (pv 2) (by intro _; rfl))) (pw_or1 (pt_cmpR op_ne (pe_callB k_lnQ (by rfl) T.z_len (by decide +kernel) (pa_cons (pv 1) pa_nil)) (pe_op op_add pe_int (pe_op op_mul (pe_callB k_lnQ (by rfl) T.z_len (by decide +kernel) (pa_cons (pv 2) pa_nil)) (pe_gint (by rfl) T.c_LINES_OF_A_STATE))) (nomark _)))))
        (pss_one ps_never)
        pss_nil)
      (pss_cons (ps_for PassesOwn.never rfl (pi_enum (by rfl) T.z_enumerate (pa_cons (pv 1) pa_nil)) (pg_tup rfl (pgs_cons (pg_name (i := 3) sc_standing_lines.nd rfl (by first | exact Or.inl rfl | exact Or.inr rfl)) (pgs_cons (pg_name (i := 4) sc_standing_lines.nd rfl (by first | exact Or.inl rfl | exact Or.inr rfl)) pgs_nil)))
        (pss_one (ps_if (PW.pt (pw_and (pt_cmpR op_gt (pv 3) pe_int (nomark _)) (pw_and (pt_not (pt_val (pe_cl F_is_head hr (by rfl) pass0 (pa_cons (pv 3) pa_nil)))) (pw_and1 (pt_cmpR op_notIn_seq (pe_cl F_last_word hr (by rfl) pass0 (pa_cons (pv 4) pa_nil)) (pv 2) (by rfl))))))
        (pss_one ps_never)
        pss_nil)))
      (pss_one (ps_ret (pv 1))))))))), ?_⟩
    have hln := hg.len
    have htl := text_len hg
    walk_at "r"
    refine r_typ (.str _) ?_
    walk_at "r"
    rw [decide_eq_true rfl]
    walk_at "r"
    refine ⟨⟨_, rfl⟩, ?_⟩
    walk_at "r"
    refine ⟨_, _, rfl, rfl, rfl, by exact lt_line (by omega), ?_⟩
    rw [text_split hg]
    refine r_newS fun H1 p1 s1 hp1 h1 => ?_
    walk_at "r"
    refine ⟨Nat.zero_le _, fun p2 hp2 => ?_⟩
    have hp20 : H p2 = none := same_free s1 hp2
    have n12 : p1 ≠ p2 := (fresh_ne hp2 h1).symm
    have N := linesF_len (rs := rs)
    have nmlen : ∀ n, ((rs.take n).map (·.nm)).length ≤ 64 := fun n => by rw [List.length_map, List.length_take]; omega
    walk_at "r"
    refine ⟨p1, _, rfl, SqL.of (by rw [upd_ne n12]; exact h1), for_J (n := (linesF rs).length) (fun i σ H' => ∃ y z, σ = [some (.str (textF rs)), some (.ref p1), some (.ref p2), y, z] ∧ Same H1 H' ∧ H' p2 = some (.lst (((rs.take ((i + 2) / 4)).map (·.nm)).map fun l => V.str (S l)))) ⟨_, _, rfl, same_new hp2, upd_same⟩ (fun i σ H' hi v => ?_) (fun σ H' v => ?_) ?_ ?_⟩
    · obtain ⟨y, z, rfl, s2, _⟩ := v
      exact ⟨_, _, SqL.of (s2 _ _ h1), by rw [List.getElem?_map, List.getElem?_eq_getElem hi]; rfl⟩
    · obtain ⟨y, z, rfl, s2, _⟩ := v
      exact ⟨_, SqL.of (s2 _ _ h1), by rw [List.length_map]; exact Nat.le_refl _⟩
    · rintro i x σ H3 H4 hi ⟨y, z, rfl, s2, e2⟩ ⟨T2, x1, rfl, hT, rfl, f1⟩
      have ex := f1 _ (SqL.of (s2 _ _ h1))
      rw [List.getElem?_map] at ex
      obtain ⟨l, el, rfl⟩ := Option.map_eq_some_iff.mp ex
      refine r_gTup (SqT.of upd_same) rfl ?_
      have s3 := same_new hT (o := .tup [.int i, .str (S l)])
      generalize upd H3 T2 (.tup [.int i, .str (S l)]) = H5 at s3 ⊢
      walk_at "r"
      refine ⟨i, l, p2, rs, rfl, hg, el, s3 _ _ e2, fun H6 s4 => ?_⟩
      walk_at "r"
      refine ⟨i, rfl, by omega, fun H7 s5 => ?_⟩
      walk_at "r"
      have sA := Same.trans (Same.trans s3 s4) s5
      by_cases hm : i % 4 = 1
      · rw [decide_eq_true hm]
        walk_at "r"
        refine ⟨_, rfl, .inl ⟨rfl, _, SqL.of (sA _ _ e2)⟩, ?_⟩
        walk_at "r"
        have hls := line_short hg (List.mem_of_getElem? el)
        refine ⟨⟨_, rfl⟩, ?_⟩
        walk_at "r"
        refine ⟨_, _, rfl, rfl, rfl, by rw [S_len]; exact lt_line (by omega), ?_⟩
        obtain ⟨k, r, er, rfl, hk⟩ := line_head_at el hm
        have hmr := List.mem_of_getElem? er
        rw [stL_split (hg.nm r hmr)]
        refine r_newS fun H8 p3 s6 _ h8 => ?_
        walk_at "r"
        refine r_ixL (SqL.of h8) (words_at (j := 1) (stW_1 r)) ?_
        walk_at "r"
        have sB := Same.trans sA s6
        have e8 := sB _ _ e2
        refine ⟨p2, _, _, rfl, rfl, e8, by rw [List.length_map]; exact lt_line (by have := nmlen ((i + 2) / 4); omega), ?_⟩
        walk_at "r"
        refine ⟨_, _, rfl, Same.mut (Same.trans s2 sB) hp2, ?_⟩
        rw [upd_same, show (i + 1 + 2) / 4 = k + 1 by omega, show (i + 2) / 4 = k by omega, take_snoc' er, List.map_append, List.map_append]
        rfl
      · rw [decide_eq_false hm]
        walk_at "r"
        refine ⟨_, _, rfl, Same.trans s2 sA, ?_⟩
        rw [show (i + 1 + 2) / 4 = (i + 2) / 4 by omega]
        exact sA _ _ e2
    · rintro σ H3 ⟨y, z, rfl, s2, e2⟩
      rw [N, show (1 + 4 * rs.length + 2) / 4 = rs.length by omega, List.take_length] at e2
      walk_at "r"
      refine ⟨true, .inl ⟨_, SqL.of e2, ?_⟩, ?_⟩
      · obtain ⟨r, hr, _⟩ := first_ix hg.ne
        cases hx : rs with
        | nil => rw [hx] at hr; cases hr
        | cons _ _ => rfl
      walk_at "r"
      refine r_lnL (SqL.of (s2 _ _ h1)) ?_
      walk_at "r"
      refine r_lnL (SqL.of e2) ?_
      walk_at "r"
      refine ⟨_, _, rfl, rfl, .inr (by decide), ?_⟩
      walk_at "r"
      rw [decide_eq_true (congrArg V.int (by rw [List.length_map, List.length_map, List.length_map, N]; omega))]
      walk_at "r"
      refine ⟨p1, _, rfl, SqL.of (s2 _ _ h1), for_J (n := (linesF rs).length) (fun i σ H' => ∃ y z, σ = [some (.str (textF rs)), some (.ref p1), some (.ref p2), y, z] ∧ Same H3 H') ⟨_, _, rfl, Same.refl _⟩ (fun i σ H' hi v => ?_) (fun σ H' v => ?_) ?_ ?_⟩
      · obtain ⟨y, z, rfl, s3⟩ := v
        exact ⟨_, _, SqL.of (s3 _ _ (s2 _ _ h1)), by rw [List.getElem?_map, List.getElem?_eq_getElem hi]; rfl⟩
      · obtain ⟨y, z, rfl, s3⟩ := v
        exact ⟨_, SqL.of (s3 _ _ (s2 _ _ h1)), by rw [List.length_map]; exact Nat.le_refl _⟩
      · rintro i x σ H4 H5 hi ⟨y, z, rfl, s3⟩ ⟨T2, x1, rfl, hT, rfl, f1⟩
        have ex := f1 _ (SqL.of (s3 _ _ (s2 _ _ h1)))
        rw [List.getElem?_map] at ex
        obtain ⟨l, el, rfl⟩ := Option.map_eq_some_iff.mp ex
        refine r_gTup (SqT.of upd_same) rfl ?_
        have s4 := Same.trans s3 (same_new hT (o := .tup [.int i, .str (S l)]))
        generalize upd H4 T2 (.tup [.int i, .str (S l)]) = H6 at s4 ⊢
        walk_at "r"
        by_cases h0 : i = 0
        · refine r_noD (by omega) ?_
          walk_at "r"
          exact ⟨_, _, rfl, s4⟩
        refine r_yesD (by omega) ?_
        walk_at "r"
        refine ⟨i, rfl, by omega, fun H7 s5 => ?_⟩
        walk_at "r"
        by_cases hm : i % 4 = 1
        · rw [decide_eq_true hm]
          walk_at "r"
          exact ⟨_, _, rfl, Same.trans s4 s5⟩
        rw [decide_eq_false hm]
        walk_at "r"
        obtain ⟨r, c, hr, hc, rfl⟩ := line_on_at el (by omega) hm
        have hls := line_short hg (List.mem_of_getElem? el)
        refine ⟨_, r.way c, [[111, 110], [c]], rfl, onL_split hc (hg.way hr hc), by omega, fun H8 s6 => ?_⟩
        walk_at "r"
        have sA := Same.trans (Same.trans s4 s5) s6
        refine r_notInNm (.inl (SqL.of (sA _ _ e2))) ?_
        walk_at "r"
        rw [decide_eq_true (hg.cl r hr c hc)]
        walk_at "r"
        exact ⟨_, _, rfl, sA⟩
      · rintro σ H4 ⟨y, z, rfl, s3⟩
        walk_at "r"
        have sB := Same.trans s2 s3
        exact q _ _ (Same.trans s1 sB) (sB _ _ h1)
def sp_steps_of (K : PySem.W.Frag) : Sp := fun vs H Q _ => ∃ a rs, vs = [.ref a] ∧ H a = some (.lst ((linesF rs).map fun l => V.str (S l))) ∧ LawG rs ∧ ∀ H' p, Same H H' → WaysAt H' p rs → Q (.ref p) H'
theorem ok_steps_of (T : Txt K mg) : Ok P w K mg base CX0 (2) "steps_of" s_steps_of ["lines"] (sp_steps_of K) := by
  obtain ⟨fd, D⟩ := T.d_steps_of
  refine ⟨⟨_, fd, T.g_steps_of, D, D.bindsN (fun _ _ _ _ _ _ us hl => match us, hl with | [_], _ => rfl), ?_⟩⟩
  refine D.ok sc_steps_of (fun vs H Q E h => ?_) (fun cdv A outer s H vs Q E hr h => ?_)
  · obtain ⟨a, rs, rfl, ha, hg, q⟩ := h
    rfl
  · obtain ⟨a, rs, rfl, ha, hg, q⟩ := h
    have F_last_word := ok_last_word (P := P) (w := w) (K := K) (mg := mg) (base := base) T
    refine ⟨_, PSs.nox (pss_cons (ps_set (i := 1) sc_steps_of.nd rfl (by first | exact Or.inl rfl | exact Or.inr rfl) pe_dnewK)
      (pss_cons (ps_for PassesOwn.never rfl (pi_range3 (by rfl) T.z_range (pa_cons pe_int (pa_cons (pe_callB k_lnQ (by rfl) T.z_len (by decide +kernel) (pa_cons (pv 0) pa_nil)) (pa_cons (pe_gint (by rfl) T.c_LINES_OF_A_STATE) pa_nil)))) (pg_name (i := 2) sc_steps_of.nd rfl (by first | exact Or.inl rfl | exact Or.inr rfl))
        (pss_cons (ps_set (i := 3) sc_steps_of.nd rfl (by first | exact Or.inl rfl | exact Or.inr rfl) (pe_ix ix_list (pe_split (pe_ix ix_list (pv 0) (pv 2) (fun _ _ => rfl)) (pe_strS [32] (by rfl))) pe_int (fun _ _ => rfl)))
      (pss_one (ps_dput (hu_of hr) (pv 1) (pv 3) (pe_dc (own := [("k", 4), ("fate", 5)]) (g := gTup K 2 (gCons (gName 4) (gCons (gName 5) gNil))) (tt := tYes) rfl sc_steps_of.nd (pi_enumX (by rfl) T.z_enumerate (pa_cons (pe_gstrS [110, 102, 115] (by rfl) (by rfl) T.c_FATES) pa_nil) (pk_cons pe_int pk_nil)) (blkOk_by (N := ["lines", "steps", "at", "name", "k", "fate"]) (sc := defScope s_steps_of) (by decide +kernel)) (fun _ _ _ _ _ => (pg_tup rfl (pgs_cons (pg_name (i := 4) sc_steps_of.nd rfl (by first | exact Or.inl rfl | exact Or.inr rfl)) (pgs_cons (pg_name (i := 5) sc_steps_of.nd rfl (by first | exact Or.inl rfl | exact Or.inr rfl)) pgs_nil)))) (fun _ _ _ _ _ => pts_nil) (fun _ _ _ _ _ => (pv 5)) (fun _ _ _ _ _ => (pe_cl F_last_word hr (by rfl) pass0 (pa_cons (pe_ix (show IxR _ (rIxL K) from ix_list) (pv 0) (pe_op op_add (pv 2) (pv 4)) (fun _ _ => rfl)) pa_nil)))) (by rfl)))))
      (pss_one (ps_ret (pv 1))))), ?_⟩
    have hln := hg.len
    walk_at "r"
    have N := linesF_len (rs := rs)
    intro p1 hp1
    have n1 : a ≠ p1 := (fresh_ne hp1 ha).symm
    have hls : ∀ H', Same H H' → SqL K H' a ((linesF rs).map fun l => V.str (S l)) := fun H' e => SqL.of (e _ _ ha)
    walk_at "r"
    refine r_lnL (hls _ (same_new hp1)) ?_
    walk_at "r"
    refine ⟨_, _, _, rs.length, rfl, by rw [List.length_map, N]; exact rg4 hln, for_rangeC (fun i σ H' => ∃ y z t u kvs, σ = [some (.ref a), some (.ref p1), y, z, t, u] ∧ Same H H' ∧ H' p1 = some (.dK kvs) ∧ Paired (WRow H') (rs.take i) kvs) ⟨_, _, _, _, [], rfl, same_new hp1, upd_same, .nil⟩ ?_ ?_⟩
    · rintro i σ H1 hi ⟨y, z, t, u, kvs, rfl, s1, e1, hk⟩
      walk_at "r"
      have er : rs[i]? = some rs[i] := List.getElem?_eq_getElem hi
      generalize rs[i] = r at er
      have hr := List.mem_of_getElem? er
      rw [show (1 + (i : Int) * 4) = ((4 * i + 1 : Nat) : Int) by omega]
      refine r_ixL (hls _ s1) (words_at (lines_head er)) ?_
      walk_at "r"
      refine ⟨⟨_, rfl⟩, ?_⟩
      walk_at "r"
      have hz := line_short hg (List.mem_of_getElem? (lines_head er))
      refine ⟨_, _, rfl, rfl, rfl, by rw [S_len]; exact lt_line (by omega), ?_⟩
      rw [stL_split (hg.nm r hr)]
      refine r_newS fun H2 p3 s2 _ h2 => ?_
      walk_at "r"
      refine r_ixL (SqL.of h2) (words_at (j := 1) (stW_1 r)) ?_
      walk_at "r"
      refine ⟨_, _, rfl, rfl, by decide, by decide, fun D hD => dc_enS (fun j H' => Same H2 H' ∧ H' D = some (.dK ((([110, 102, 115] : List Nat).take j).map fun c => (Sum.inr (S [c]), V.str (S (r.way c)))))) ⟨same_new hD, upd_same⟩ ?_ ?_⟩
      · rintro j c H3 T ec ⟨s3, e3⟩ hT
        have hj : j < 3 := (List.getElem?_eq_some_iff.mp ec).1
        refine r_gTup (SqT.of upd_same) rfl ?_
        have s4 := same_new hT (o := .tup [.int (1 + j), .str (S [c])])
        have e4 := s4 _ _ e3
        generalize upd H3 T (.tup [.int (1 + j), .str (S [c])]) = H4 at s4 e4 ⊢
        walk_at "r"
        refine ⟨rfl, ?_⟩
        walk_at "r"
        rw [show ((4 * i + 1 : Nat) : Int) + (1 + (j : Int)) = ((4 * i + 1 + (1 + j) : Nat) : Int) by omega]
        have sA := Same.trans (Same.trans (Same.trans s1 s2) s3) s4
        refine r_ixL (hls _ sA) (words_at (lines_on er ec)) ?_
        walk_at "r"
        have hc : c = 110 ∨ c = 102 ∨ c = 115 := by have := List.mem_of_getElem? ec; simpa using this
        refine ⟨_, r.way c, [[111, 110], [c]], rfl, onL_split hc (hg.way hr hc), by have := line_short hg (List.mem_of_getElem? (lines_on er ec)); omega, fun H5 s5 => ?_⟩
        refine ⟨_, .inr (S [c]), rfl, s5 _ _ e4, by rw [List.length_map, List.length_take]; exact lt_line (by omega), Same.mut (Same.trans (Same.trans s3 s4) s5) hD, ?_⟩
        rw [upd_same, nfs_new ec]
      · rintro H3 ⟨s3, e3⟩
        walk_at "r"
        have sA := Same.trans s2 s3
        have eP := sA _ _ e1
        have hlk : kvs.length ≤ 64 := by have := hk.length; rw [List.length_take] at this; omega
        refine ⟨p1, _, rfl, DPut.k (k := .inr (S r.nm)) eP (lt_line (by omega)), ?_⟩
        walk_at "r"
        have sB := Same.trans s1 sA
        refine ⟨_, _, _, _, _, rfl, Same.mut sB hp1, by rw [upd_same], ?_⟩
        rw [ways_new hg.u hk er, take_snoc' er]
        have keep : ∀ d x, d ≠ p1 → H3 d = some x → (upd H3 p1 (.dK (kvs ++ [(.inr (S r.nm), .ref D)]))) d = some x := fun d x hd e => (upd_ne hd).trans e
        have hDp : D ≠ p1 := fresh_ne hD (s2 _ _ e1)
        refine (hk.mono fun b kv h => ?_).snoc ⟨D, rfl, keep D _ hDp e3⟩
        obtain ⟨d, h1, h2⟩ := h
        exact ⟨d, h1, keep d _ (ways_not hk e1 h2) (sA _ _ h2)⟩
    · rintro σ H1 ⟨y, z, t, u, kvs, rfl, s1, e1, hk⟩
      walk_at "r"
      rw [List.take_length] at hk
      exact q _ _ s1 ⟨kvs, e1, hk⟩
def sp_Law_init (K : PySem.W.Frag) : Sp := fun vs H Q _ => ∃ x dx rs, vs = [.ref x, .str (textF rs)] ∧ H x = some (.ins (He.ga K "Law") dx []) ∧ LawG rs ∧ ∀ H', But x H H' → RuleAt (He.ga K "Law") H' x rs → Q .non H'
theorem ok_Law_init (T : Txt K mg) : OkM P w K mg base CX0 (5) "Law" "__init__" ["self", "text"] (sp_Law_init K) := by
  obtain ⟨fd, D⟩ := T.d_Law_init
  refine ⟨⟨fd, D.bindsN (fun _ _ _ _ _ _ us hl => match us, hl with | [_, _], _ => rfl), ?_⟩⟩
  refine D.ok sc_Law_init (fun vs H Q E h => ?_) (fun cdv A outer s H vs Q E hr h => ?_)
  · obtain ⟨x, dx, rs, rfl, hx, hg, q⟩ := h
    rfl
  · obtain ⟨x, dx, rs, rfl, hx, hg, q⟩ := h
    have F_standing_lines := ok_standing_lines (P := P) (w := w) (K := K) (mg := mg) (base := base) T
    have F_steps_of := ok_steps_of (P := P) (w := w) (K := K) (mg := mg) (base := base) T
    refine ⟨_, PSs.nox (pss_cons (ps_set (i := 2) sc_Law_init.nd rfl (by first | exact Or.inl rfl | exact Or.inr rfl) (pe_cl F_standing_lines hr (by rfl) pass0 (pa_cons (pv 1) pa_nil)))
      (pss_cons (ps_setLc (i := 3) (own := [("line", 4)]) (g := gName 4) (tt := tYes) rfl sc_Law_init.nd rfl rfl (sw_true rfl rfl rfl rfl) (pi_list (pe_sliceS (pv 2) (po_some pe_int) po_none (po_some (pe_gint (by rfl) T.c_LINES_OF_A_STATE)))) (blkOk_by (N := ["self", "text", "lines", "heads", "line", "words"]) (sc := defScope s_Law_init) (by decide +kernel)) (fun _ _ _ _ _ => (pg_name (i := 4) sc_Law_init.nd rfl (by first | exact Or.inl rfl | exact Or.inr rfl))) (fun _ _ _ _ _ => pts_nil) (fun _ _ _ _ _ => (pe_split (pv 4) (pe_strS [32] (by rfl)))))
      (pss_cons (ps_fld (pv 0) (pv 1) rfl)
      (pss_cons (ps_fld (pv 0) (pe_tupleOf (by rfl) T.z_tuple (pe_lc (own := [("words", 5)]) (g := gName 5) (tt := tYes) rfl sc_Law_init.nd (pi_list (pv 3)) (blkOk_by (N := ["self", "text", "lines", "heads", "line", "words"]) (sc := defScope s_Law_init) (by decide +kernel)) (fun _ _ _ _ _ => (pg_name (i := 5) sc_Law_init.nd rfl (by first | exact Or.inl rfl | exact Or.inr rfl))) (fun _ _ _ _ _ => pts_nil) (fun _ _ _ _ _ => (pe_ix (show IxR _ (rIxL K) from ix_list) (pv 5) pe_int (fun _ _ => rfl))))) rfl)
      (pss_cons (ps_fld (pv 0) (pe_tupleOf (by rfl) T.z_tuple (pe_lc (own := [("words", 5)]) (g := gName 5) rfl sc_Law_init.nd (pi_list (pv 3)) (blkOk_by (N := ["self", "text", "lines", "heads", "line", "words"]) (sc := defScope s_Law_init) (by decide +kernel)) (fun _ _ _ _ _ => (pg_name (i := 5) sc_Law_init.nd rfl (by first | exact Or.inl rfl | exact Or.inr rfl))) (fun _ _ _ _ _ => (pts_one (pt_cmpR op_eq (pe_callB (show CallR _ _ (rLnQ K) from k_lnQ) (by rfl) T.z_len (by decide +kernel) (pa_cons (pv 5) pa_nil)) pe_int (nomark _)))) (fun _ _ _ _ _ => (pe_ix (show IxR _ (rIxL K) from ix_list) (pv 5) pe_int (fun _ _ => rfl))))) rfl)
      (pss_cons (ps_fld (pv 0) (pe_dc (own := [("words", 5)]) (g := gName 5) (tt := tYes) rfl sc_Law_init.nd (pi_list (pv 3)) (blkOk_by (N := ["self", "text", "lines", "heads", "line", "words"]) (sc := defScope s_Law_init) (by decide +kernel)) (fun _ _ _ _ _ => (pg_name (i := 5) sc_Law_init.nd rfl (by first | exact Or.inl rfl | exact Or.inr rfl))) (fun _ _ _ _ _ => pts_nil) (fun _ _ _ _ _ => (pe_ix (show IxR _ (rIxL K) from ix_list) (pv 5) pe_int (fun _ _ => rfl))) (fun _ _ _ _ _ => (pe_cmpR op_eq (pe_callB (show CallR _ _ (rLnQ K) from k_lnQ) (by rfl) T.z_len (by decide +kernel) (pa_cons (pv 5) pa_nil)) pe_int (nomark _)))) rfl)
      (pss_one (ps_fld (pv 0) (pe_cl F_steps_of hr (by rfl) pass0 (pa_cons (pv 2) pa_nil)) rfl)))))))), ?_⟩
    have hln := hg.len
    walk_at "r"
    refine ⟨rs, rfl, hg, fun H1 p1 s1 h1 => ?_⟩
    walk_at "r"
    refine ⟨p1, _, rfl, SqL.of h1, by decide, fun p2 hp2 => ?_⟩
    rw [heads_pick hln]
    have s2 := Same.trans s1 (same_new hp2 (o := .lst (rs.map fun r => V.str (S (stL r)))))
    have h2 : (upd H1 p2 (.lst (rs.map fun r => V.str (S (stL r))))) p2 = some (.lst (rs.map fun r => V.str (S (stL r)))) := upd_same
    have g1 := (same_new hp2 (o := .lst (rs.map fun r => V.str (S (stL r))))) _ _ h1
    generalize upd H1 p2 (.lst (rs.map fun r => V.str (S (stL r)))) = H2 at s2 h2 g1 ⊢
    refine ⟨p2, rfl, ⟨_, SqL.of h2⟩, fun D hD => lc_list (K := K) (a := p2) (xs := rs.map fun r => V.str (S (stL r))) (fun i X => Same H2 X ∧ ∃ ps : List Addr, X D = some (.lst (ps.map V.ref)) ∧ Paired (fun r p => p ≠ D ∧ X p = some (.lst ((stW r).map fun l => V.str (S l)))) (rs.take i) ps) ⟨same_new hD, [], upd_same, .nil⟩ (fun i X _ h => SqL.of (h.1 _ _ h2)) ?_ ?_⟩
    · intro i v X ev ⟨s3, ps, e3, hps⟩
      rw [List.getElem?_map] at ev
      obtain ⟨r, er, rfl⟩ := Option.map_eq_some_iff.mp ev
      have hi : i < rs.length := (List.getElem?_eq_some_iff.mp er).1
      have hz := line_short hg (List.mem_of_getElem? (lines_head er))
      walk_at "r"
      refine ⟨rfl, ?_⟩
      walk_at "r"
      refine ⟨⟨_, rfl⟩, ?_⟩
      walk_at "r"
      refine ⟨_, _, rfl, rfl, rfl, by rw [S_len]; exact lt_line (by omega), ?_⟩
      rw [stL_split (hg.nm r (List.mem_of_getElem? er))]
      refine r_newS fun X4 p4 s4 hp4 h4 => ?_
      have n4 : p4 ≠ D := fresh_ne hp4 e3
      have hl := hps.length
      rw [List.length_take] at hl
      refine ⟨_, s4 _ _ e3, by rw [List.length_map]; exact lt_line (by omega), Same.mut (Same.trans s3 s4) hD, ps ++ [p4], by rw [upd_same, List.map_append]; rfl, ?_⟩
      rw [take_snoc' er]
      exact (hps.mono fun b p h => ⟨h.1, (upd_ne h.1).trans (s4 _ _ h.2)⟩).snoc ⟨n4, (upd_ne n4).trans h4⟩
    intro H3 ⟨s3, ps, e3, hps⟩
    rw [List.length_map, List.take_length] at hps
    have sA := Same.trans s2 s3
    have hxx := sA _ _ hx
    have hD0 : H D = none := same_free s2 hD
    have nDx : D ≠ x := fun z => by subst z; rw [hx] at hD0; cases hD0
    have npx : ∀ b p, H3 p = some (.lst b) → p ≠ x := fun b p h z => by subst z; rw [hxx] at h; cases h
    walk_at "r"
    refine ⟨x, _, dx, [], rfl, hxx, T.cl_Law, T.na_Law_text, by decide, ?_⟩
    walk_at "r"
    have M3 : IniC x D p1 ps rs H H3 := ⟨But.of sA, e3, hps.mono fun _ _ h => h.2, s3 _ _ g1⟩
    have hpl : rs.length = ps.length := hps.length
    have M4 := M3.put (gs := putF "text" (.str (textF rs)) []) hxx
    have x4 : (upd H3 x (.ins (He.ga K "Law") dx (putF "text" (.str (textF rs)) []))) x = some (.ins (He.ga K "Law") dx (putF "text" (.str (textF rs)) [])) := upd_same
    generalize upd H3 x (.ins (He.ga K "Law") dx (putF "text" (.str (textF rs)) [])) = H4 at M4 x4 ⊢
    refine ⟨D, rfl, ⟨_, SqL.of M4.d⟩, fun E2 hE2 => lc_list (K := K) (a := D) (xs := ps.map V.ref) (fun i X => Same H4 X ∧ X E2 = some (.lst (((rs.take i).map (·.nm)).map fun l => V.str (S l)))) ⟨same_new hE2, upd_same⟩ (fun i X _ h => SqL.of (h.1 _ _ M4.d)) ?_ ?_⟩
    · rintro i v X ev ⟨s5, e5⟩
      rw [List.getElem?_map] at ev
      obtain ⟨p, ep, rfl⟩ := Option.map_eq_some_iff.mp ev
      obtain ⟨r, er, hr⟩ := paired_get M4.h ep
      have hi : i < rs.length := (List.getElem?_eq_some_iff.mp er).1
      walk_at "r"
      refine ⟨rfl, ?_⟩
      walk_at "r"
      refine r_ixL (SqL.of (s5 _ _ hr)) (words_at (j := 1) (stW_1 r)) ?_
      refine ⟨_, e5, by rw [List.length_map, List.length_map, List.length_take]; exact lt_line (by omega), Same.mut s5 hE2, ?_⟩
      rw [upd_same, take_snoc' er, List.map_append, List.map_append]
      rfl
    rintro H5 ⟨s5, e5⟩
    rw [List.length_map, ← hpl, List.take_length] at e5
    walk_at "r"
    refine .inl ⟨E2, _, rfl, SqL.of e5, fun n hn => ?_⟩
    have s6 := Same.trans s5 (same_new hn (o := .tup ((rs.map (·.nm)).map fun l => V.str (S l))))
    have M6 := M4.same s6
    have x6 := s6 _ _ x4
    have n6 : (upd H5 n (.tup ((rs.map (·.nm)).map fun l => V.str (S l)))) n = some (.tup ((rs.map (·.nm)).map fun l => V.str (S l))) := upd_same
    generalize upd H5 n (.tup ((rs.map (·.nm)).map fun l => V.str (S l))) = H6 at s6 M6 x6 n6 ⊢
    walk_at "r"
    refine ⟨x, _, dx, _, rfl, x6, T.cl_Law, T.na_Law_names, (len_fs _ _ (Nat.zero_le 0) (by decide)).2, ?_⟩
    have nnx : n ≠ x := fun z => by subst z; rw [x6] at n6; cases n6
    walk_at "r"
    have M7 := M6.put (gs := putF "names" (.ref n) (putF "text" (.str (textF rs)) [])) x6
    have x7 : (upd H6 x (.ins (He.ga K "Law") dx (putF "names" (.ref n) (putF "text" (.str (textF rs)) [])))) x = some (.ins (He.ga K "Law") dx (putF "names" (.ref n) (putF "text" (.str (textF rs)) []))) := upd_same
    have n7 := (upd_ne (H := H6) (b := n) (o := .ins (He.ga K "Law") dx (putF "names" (.ref n) (putF "text" (.str (textF rs)) []))) nnx).trans n6
    generalize upd H6 x (.ins (He.ga K "Law") dx (putF "names" (.ref n) (putF "text" (.str (textF rs)) []))) = H7 at M7 x7 n7 ⊢
    refine ⟨D, rfl, ⟨_, SqL.of M7.d⟩, fun E3 hE3 => lc_list (K := K) (a := D) (xs := ps.map V.ref) (fun i X => Same H7 X ∧ X E3 = some (.lst ((oftens (rs.take i)).map fun l => V.str (S l)))) ⟨same_new hE3, upd_same⟩ (fun i X _ h => SqL.of (h.1 _ _ M7.d)) ?_ ?_⟩
    · rintro i v X ev ⟨s8, e8⟩
      rw [List.getElem?_map] at ev
      obtain ⟨p, ep, rfl⟩ := Option.map_eq_some_iff.mp ev
      obtain ⟨r, er, hr⟩ := paired_get M7.h ep
      have hi : i < rs.length := (List.getElem?_eq_some_iff.mp er).1
      walk_at "r"
      refine ⟨rfl, ?_⟩
      walk_at "r"
      refine r_lnL (SqL.of (s8 _ _ hr)) ?_
      walk_at "r"
      rw [stW_len]
      cases ho : r.oft
      · walk_at "r"
        refine ⟨s8, ?_⟩
        rw [e8, take_snoc' er, oftens_snoc, ho, if_neg Bool.false_ne_true, List.append_nil]
      · walk_at "r"
        refine r_ixL (SqL.of (s8 _ _ hr)) (words_at (j := 1) (stW_1 r)) ?_
        refine ⟨_, e8, ?_, Same.mut s8 hE3, ?_⟩
        · rw [List.length_map]
          unfold oftens
          rw [List.length_map]
          have := List.length_filter_le (·.oft) (rs.take i)
          rw [List.length_take] at this
          exact lt_line (by omega)
        · rw [upd_same, take_snoc' er, oftens_snoc, ho, if_pos rfl, List.map_append]
          rfl
    rintro H8 ⟨s8, e8⟩
    rw [List.length_map, ← hpl, List.take_length] at e8
    walk_at "r"
    refine .inl ⟨E3, _, rfl, SqL.of e8, fun o hO => ?_⟩
    have s9 := Same.trans s8 (same_new hO (o := .tup ((oftens rs).map fun l => V.str (S l))))
    have M9 := M7.same s9
    have x9 := s9 _ _ x7
    have n9 := s9 _ _ n7
    have o9 : (upd H8 o (.tup ((oftens rs).map fun l => V.str (S l)))) o = some (.tup ((oftens rs).map fun l => V.str (S l))) := upd_same
    generalize upd H8 o (.tup ((oftens rs).map fun l => V.str (S l))) = H9 at s9 M9 x9 n9 o9 ⊢
    walk_at "r"
    have l1 := (len_fs "text" (.str (textF rs)) (fs := []) (Nat.zero_le 0) (by decide)).1
    have l2 := (len_fs "names" (.ref n) l1 (by decide)).1
    have l3 := (len_fs "often" (.ref o) l2 (by decide)).1
    have l4 := fun m => (len_fs "marked" (.ref m) l3 (by decide)).1
    refine ⟨x, _, dx, _, rfl, x9, T.cl_Law, T.na_Law_often, by omega, ?_⟩
    have nox : o ≠ x := fun z => by subst z; rw [x9] at o9; cases o9
    walk_at "r"
    have M10 := M9.put (gs := putF "often" (.ref o) (putF "names" (.ref n) (putF "text" (.str (textF rs)) []))) x9
    have x10 : (upd H9 x (.ins (He.ga K "Law") dx (putF "often" (.ref o) (putF "names" (.ref n) (putF "text" (.str (textF rs)) []))))) x = some (.ins (He.ga K "Law") dx (putF "often" (.ref o) (putF "names" (.ref n) (putF "text" (.str (textF rs)) [])))) := upd_same
    have n10 := (upd_ne (H := H9) (b := n) (o := .ins (He.ga K "Law") dx (putF "often" (.ref o) (putF "names" (.ref n) (putF "text" (.str (textF rs)) [])))) nnx).trans n9
    have o10 := (upd_ne (H := H9) (b := o) (o := .ins (He.ga K "Law") dx (putF "often" (.ref o) (putF "names" (.ref n) (putF "text" (.str (textF rs)) [])))) nox).trans o9
    generalize upd H9 x (.ins (He.ga K "Law") dx (putF "often" (.ref o) (putF "names" (.ref n) (putF "text" (.str (textF rs)) [])))) = H10 at M10 x10 n10 o10 ⊢
    refine ⟨D, rfl, ⟨_, SqL.of M10.d⟩, fun E4 hE4 => dc_list (K := K) (a := D) (xs := ps.map V.ref) (fun i X => Same H10 X ∧ X E4 = some (.dK ((rs.take i).map fun r => (.inr (S r.nm), .bl r.oft)))) ⟨same_new hE4, upd_same⟩ (fun i X h => SqL.of (h.1 _ _ M10.d)) ?_ ?_⟩
    · rintro i v X ev ⟨s11, e11⟩
      rw [List.getElem?_map] at ev
      obtain ⟨p, ep, rfl⟩ := Option.map_eq_some_iff.mp ev
      obtain ⟨r, er, hr⟩ := paired_get M10.h ep
      have hi : i < rs.length := (List.getElem?_eq_some_iff.mp er).1
      walk_at "r"
      refine ⟨rfl, ?_⟩
      walk_at "r"
      refine r_ixL (SqL.of (s11 _ _ hr)) (words_at (j := 1) (stW_1 r)) ?_
      walk_at "r"
      refine r_lnL (SqL.of (s11 _ _ hr)) ?_
      walk_at "r"
      rw [stW_len]
      refine ⟨_, .inr (S r.nm), rfl, e11, by rw [List.length_map, List.length_take]; exact lt_line (by omega), Same.mut s11 hE4, ?_⟩
      rw [upd_same, mark_new hg.u er, take_snoc' er, List.map_append]
      rfl
    rintro H11 ⟨s11, e11⟩
    rw [List.length_map, ← hpl, List.take_length] at e11
    have M11 := M10.same s11
    have x11 := s11 _ _ x10
    have n11 := s11 _ _ n10
    have o11 := s11 _ _ o10
    walk_at "r"
    refine ⟨x, _, dx, _, rfl, x11, T.cl_Law, T.na_Law_marked, by omega, ?_⟩
    have nmx : E4 ≠ x := fun z => by subst z; rw [x11] at e11; cases e11
    walk_at "r"
    have M12 := M11.put (gs := putF "marked" (.ref E4) (putF "often" (.ref o) (putF "names" (.ref n) (putF "text" (.str (textF rs)) [])))) x11
    have x12 : (upd H11 x (.ins (He.ga K "Law") dx (putF "marked" (.ref E4) (putF "often" (.ref o) (putF "names" (.ref n) (putF "text" (.str (textF rs)) [])))))) x = some (.ins (He.ga K "Law") dx (putF "marked" (.ref E4) (putF "often" (.ref o) (putF "names" (.ref n) (putF "text" (.str (textF rs)) []))))) := upd_same
    have k12 : ∀ b u, b ≠ x → H11 b = some u → (upd H11 x (.ins (He.ga K "Law") dx (putF "marked" (.ref E4) (putF "often" (.ref o) (putF "names" (.ref n) (putF "text" (.str (textF rs)) [])))))) b = some u := fun b u nb e => (upd_ne nb).trans e
    generalize upd H11 x (.ins (He.ga K "Law") dx (putF "marked" (.ref E4) (putF "often" (.ref o) (putF "names" (.ref n) (putF "text" (.str (textF rs)) []))))) = H12 at M12 x12 k12 ⊢
    refine ⟨p1, rs, rfl, M12.l, hg, fun H13 st s13 hW => ?_⟩
    walk_at "r"
    have x13 := s13 _ _ x12
    refine ⟨x, _, dx, _, rfl, x13, T.cl_Law, T.na_Law_steps, by have := l4 E4; omega, ?_⟩
    walk_at "r"
    rw [law_fields]
    have M13 := M12.same s13
    refine q _ M13.b.put ⟨dx, n, o, E4, st, upd_same, (upd_ne nnx).trans (s13 _ _ (k12 _ _ nnx n11)), (upd_ne nox).trans (s13 _ _ (k12 _ _ nox o11)), (upd_ne nmx).trans (s13 _ _ (k12 _ _ nmx e11)), ?_⟩
    obtain ⟨kvs, hk, hp⟩ := hW
    have nsx : ∀ d ys, H13 d = some (.dK ys) → d ≠ x := fun d ys h z => by subst z; rw [x13] at h; cases h
    refine ⟨kvs, (upd_ne (nsx _ _ hk)).trans hk, hp.mono fun r kv h => ?_⟩
    obtain ⟨d, h1, h2⟩ := h
    exact ⟨d, h1, (upd_ne (nsx _ _ h2)).trans h2⟩
def sp_state_behind (K : PySem.W.Frag) : Sp := fun vs H Q _ => ∃ x rs s0 wd, vs = [.ref x, .str (S s0), .str (S wd)] ∧ RuleAt (He.ga K "Law") H x rs ∧ Closed rs ∧ s0 ∈ rs.map (·.nm) ∧ Wd wd ∧ ∀ H', Same H H' → Q (.str (S (runF rs s0 wd))) H'
theorem ok_state_behind (T : Txt K mg) : Ok P w K mg base CX0 (1) "state_behind" s_state_behind ["rule", "state", "word"] (sp_state_behind K) := by
  obtain ⟨fd, D⟩ := T.d_state_behind
  refine ⟨⟨_, fd, T.g_state_behind, D, D.bindsN (fun _ _ _ _ _ _ us hl => match us, hl with | [_, _, _], _ => rfl), ?_⟩⟩
  refine D.ok sc_state_behind (fun vs H Q E h => ?_) (fun cdv A outer s H vs Q E hr h => ?_)
  · obtain ⟨x, rs, s0, wd, rfl, hx, hc, h0, hw, q⟩ := h
    rfl
  · obtain ⟨x, rs, s0, wd, rfl, hx, hc, h0, hw, q⟩ := h
    refine ⟨_, PSs.nox (pss_cons (ps_for PassesOwn.never rfl (pi_str (pv 2)) (pg_name (i := 3) sc_state_behind.nd rfl (by first | exact Or.inl rfl | exact Or.inr rfl))
        (pss_one (ps_set (i := 1) sc_state_behind.nd rfl (by first | exact Or.inl rfl | exact Or.inr rfl) (pe_dget (hu_of hr) (pe_dget (hu_of hr) (pe_fld (pv 0) rfl) (pv 1) (fun _ _ => rfl)) (pv 3) (fun _ _ => rfl)))))
      (pss_one (ps_ret (pv 1)))), ?_⟩
    walk_at "r"
    refine ⟨_, rfl, for_S (l := wd) (fun i σ H' => ∃ y, σ = [some (.ref x), some (.str (S (runF rs s0 (wd.take i)))), some (.str (S wd)), y] ∧ H' = H) ⟨_, rfl, rfl⟩ ?_ ?_⟩
    · rintro i c σ H' ec ⟨y, rfl, rfl⟩
      walk_at "r"
      obtain ⟨dx, fs, st, e1, e2, hW⟩ := hx.steps
      obtain ⟨d2, g1, g2⟩ := ways_step hW (runF_mem hc (hw.take i) h0) (hw.get ec)
      refine ⟨x, _, dx, fs, _, rfl, e1, T.cl_Law, T.na_Law_steps, e2, ?_⟩
      walk_at "r"
      refine ⟨st, _, rfl, g1, ?_⟩
      walk_at "r"
      refine ⟨d2, _, rfl, g2, ?_⟩
      walk_at "r"
      exact ⟨_, by rw [take_snoc ec, runF_snoc]; rfl, rfl⟩
    · rintro σ H' ⟨y, rfl, rfl⟩
      walk_at "r"
      rw [List.take_length]
      exact q _ (Same.refl _)
def sp_ways_from (K : PySem.W.Frag) : Sp := fun vs H Q _ => ∃ x rs s0 w, vs = [.ref x, .str (S s0), .ref w] ∧ RuleAt (He.ga K "Law") H x rs ∧ LawG rs ∧ s0 ∈ rs.map (·.nm) ∧ WaysAt H w rs ∧ ∀ H' p G, Same H H' → H' p = some (.dK (wordsK G)) → H p = none → (G.map (·.1)).Nodup → GoodW rs s0 65 G → (∀ s, s ∈ G.map (·.1) ↔ Goes1 rs s0 s) → Q (.ref p) H'
theorem ok_ways_from (T : Txt K mg) : Ok P w K mg base CX0 (1) "ways_from" s_ways_from ["rule", "state", "within"] (sp_ways_from K) := by
  obtain ⟨fd, D⟩ := T.d_ways_from
  refine ⟨⟨_, fd, T.g_ways_from, D, D.bindsN (fun _ _ _ _ _ _ us hl => match us, hl with | [_, _, _], _ => rfl), ?_⟩⟩
  refine D.ok sc_ways_from (fun vs H Q E h => ?_) (fun cdv A outer s H vs Q E hr h => ?_)
  · obtain ⟨x, rs, s0, wi, rfl, hx, hg, h0, hw, q⟩ := h
    rfl
  · obtain ⟨x, rs, s0, wi, rfl, hx, hg, h0, hw, q⟩ := h
    refine ⟨_, PSs.nox (pss_cons (ps_set (i := 3) sc_ways_from.nd rfl (by first | exact Or.inl rfl | exact Or.inr rfl) pe_dnewK)
      (pss_cons (ps_set (i := 4) sc_ways_from.nd rfl (by first | exact Or.inl rfl | exact Or.inr rfl) (pe_lst (pa_cons (pe_tup (pa_cons (pv 1) (pa_cons (pe_strS [] (by rfl)) pa_nil))) pa_nil)))
      (pss_cons (ps_while PassesOwn.never (pt_truth (pv 4) (by intro _; rfl)) (pss_cons (ps_set (i := 5) sc_ways_from.nd rfl (by first | exact Or.inl rfl | exact Or.inr rfl) (pe_lst pa_nil))
      (pss_cons (ps_for PassesOwn.never rfl (pi_list (pv 4)) (pg_tup rfl (pgs_cons (pg_name (i := 6) sc_ways_from.nd rfl (by first | exact Or.inl rfl | exact Or.inr rfl)) (pgs_cons (pg_name (i := 7) sc_ways_from.nd rfl (by first | exact Or.inl rfl | exact Or.inr rfl)) pgs_nil)))
        (pss_one (ps_for PassesOwn.never rfl (pi_str (pe_gstrS [110, 102, 115] (by rfl) (by rfl) T.c_FATES)) (pg_name (i := 8) sc_ways_from.nd rfl (by first | exact Or.inl rfl | exact Or.inr rfl))
        (pss_cons (ps_set (i := 9) sc_ways_from.nd rfl (by first | exact Or.inl rfl | exact Or.inr rfl) (pe_dget (hu_of hr) (pe_dget (hu_of hr) (pe_fld (pv 0) rfl) (pv 6) (fun _ _ => rfl)) (pv 8) (fun _ _ => rfl)))
      (pss_one (ps_if (PW.pt (pw_and (pt_cmp (pc_din (hu_of hr) (pv 9) (pv 2)) rfl) (pw_and1 (pt_cmp (pc_dnotin (hu_of hr) (pv 9) (pv 3)) rfl))))
        (pss_cons (ps_dput (hu_of hr) (pv 3) (pv 9) (pe_op o_addS (pv 7) (pv 8)) (by rfl))
      (pss_one (ps_expr (pe_bm PySem.F.plainAttrs_list PySem.F.slot_list_append PySem.F.type_list_append mt_append (pv 5) (pa_cons (pe_tup (pa_cons (pv 9) (pa_cons (pe_op o_addS (pv 7) (pv 8)) pa_nil))) pa_nil)))))
        pss_nil))))))
      (pss_one (ps_set (i := 4) sc_ways_from.nd rfl (by first | exact Or.inl rfl | exact Or.inr rfl) (pv 5))))))
      (pss_one (ps_ret (pv 3)))))), ?_⟩
    have hc := hg.cl
    have hln := hg.len
    walk_at "r"
    intro p3 hp3
    walk_at "r"
    refine ⟨by show 2 ≤ sizeLine; decide, fun t0 ht0 => ?_⟩
    walk_at "r"
    refine ⟨by show 1 ≤ sizeLine; decide, fun e0 he0 => ?_⟩
    walk_at "r"
    have sa := same_new hp3 (o := .dK [])
    have sb := same_new ht0 (o := .tup [.str (S s0), .str (S [])])
    have sc := same_new he0 (o := .lst [.ref t0])
    have f3 := sc _ _ (sb _ _ (show (upd H p3 (.dK [])) p3 = some (.dK []) from upd_same))
    have ft := sc _ _ (show (upd (upd H p3 (.dK [])) t0 (.tup [.str (S s0), .str (S [])])) t0 = some (.tup [.str (S s0), .str (S [])]) from upd_same)
    have fe : (upd (upd (upd H p3 (.dK [])) t0 (.tup [.str (S s0), .str (S [])])) e0 (.lst [.ref t0])) e0 = some (.lst [.ref t0]) := upd_same
    have sS := Same.trans (Same.trans sa sb) sc
    generalize upd (upd (upd H p3 (.dK [])) t0 (.tup [.str (S s0), .str (S [])])) e0 (.lst [.ref t0]) = B0 at f3 ft fe sS ⊢
    refine r_while ⟨fun m σ X => ∃ i, m = rs.length + 1 - i ∧ i ≤ rs.length + 1 ∧ ∃ e y1 y2 y3 y4 y5 G E, σ = [some (.ref x), some (.str (S s0)), some (.ref wi), some (.ref p3), some (.ref e), y1, y2, y3, y4, y5] ∧ Same H X ∧ X p3 = some (.dK (wordsK G)) ∧ EdgeAt X e E ∧ Rch rs s0 i (G.map (·.1)) (E.map (·.1)) ∧ GoodW rs s0 i G ∧ ∀ q ∈ E, Wd q.2 ∧ runF rs s0 q.2 = q.1 ∧ q.2.length ≤ i,
      ⟨_, 0, rfl, Nat.zero_le _, e0, _, _, _, _, _, [], [(s0, [])], rfl, sS, f3, ⟨[t0], fe, .cons ft .nil⟩, Rch.zero, ⟨fun _ h => nomatch h⟩, fun q hq => by rw [List.mem_singleton.mp hq]; exact ⟨(fun _ h => nomatch h), rfl, Nat.le_refl _⟩⟩, ?_⟩
    rintro m σ X ⟨i, rfl, hi, e, y1, y2, y3, y4, y5, G, E, rfl, sX, g3, ⟨ts, eE, pE⟩, R, GW, hE⟩
    walk_at "r"
    cases E with
    | nil =>
      have : ts = [] := List.length_eq_zero_iff.mp pE.length.symm
      subst this
      refine ⟨false, .inl ⟨[], SqL.of eE, rfl⟩, ?_⟩
      walk_at "r"
      exact q _ _ G sX g3 hp3 R.nd (GW.mono (by omega)) R.done
    | cons q0 E0 =>
      have hT : q0.1 :: E0.map (·.1) ≠ [] := by simp
      have hiF : i ≤ (G.map (·.1)).length := R.g.resolve_left (fun z => by cases z)
      have hFl := rch_len R.r R.nd hc h0
      have hts : ts ≠ [] := fun z => by subst z; have := pE.length; simp at this
      refine ⟨true, .inl ⟨ts.map V.ref, SqL.of eE, by cases ts with | nil => exact absurd rfl hts | cons _ _ => rfl⟩, ?_⟩
      generalize q0 :: E0 = E at *
      walk_at "r"
      refine ⟨_, fun σ' X' p => ⟨rs.length + 1 - (i + 1), by omega, i + 1, rfl, by omega, p⟩, ?_⟩
      walk_at "r"
      refine ⟨Nat.zero_le _, fun p5 hp5 => ?_⟩
      walk_at "r"
      have s5 := same_new hp5 (o := .lst [])
      have hp5H : H p5 = none := same_free sX hp5
      have n35 : p3 ≠ p5 := fun z => by subst z; rw [hp5] at g3; cases g3
      have ne5 : e ≠ p5 := (fresh_ne hp5 eE).symm
      have k3 := s5 _ _ g3
      have k5 : (upd X p5 (.lst [])) p5 = some (.lst []) := upd_same
      have kE := s5 _ _ eE
      have kP := pE.mono (fun _ _ h => s5 _ _ h)
      have sB := Same.trans sX s5
      generalize upd X p5 (.lst []) = B at k3 k5 kE kP sB ⊢
      have ne3 : e ≠ p3 := fun z => by subst z; rw [kE] at k3; cases k3
      have nt3 : ∀ t ys, B t = some (.tup ys) → t ≠ p3 := fun t ys h z => by subst z; rw [k3] at h; cases h
      have nt5 : ∀ t ys, B t = some (.tup ys) → t ≠ p5 := fun t ys h z => by subst z; rw [k5] at h; cases h
      refine ⟨e, rfl, ⟨_, SqL.of kE⟩, for_list (K := K) (a := e) (xs := ts.map V.ref) (fun j σ Y => ∃ y2 y3 y4 y5 N, σ = [some (.ref x), some (.str (S s0)), some (.ref wi), some (.ref p3), some (.ref e), some (.ref p5), y2, y3, y4, y5] ∧ But2 p3 p5 B Y ∧ Y p3 = some (.dK (wordsK (G ++ N))) ∧ EdgeAt Y p5 N ∧ RchL rs s0 (G.map (·.1)) (E.map (·.1)) (N.map (·.1)) j ∧ GoodW rs s0 (i + 1) (G ++ N)) ⟨_, _, _, _, [], rfl, But2.refl, by rw [List.append_nil]; exact k3, ⟨[], k5, .nil⟩, R.begin, by rw [List.append_nil]; exact GW.mono (by omega)⟩ (fun j σ Y _ h => by obtain ⟨_, _, _, _, _, _, b, _⟩ := h; exact SqL.of (b _ _ ne3 ne5 kE)) ?_ ?_⟩
      · rintro j v σ Y ev ⟨y2, y3, y4, y5, N, rfl, b1, c3, c5, M, GN⟩
        rw [List.getElem?_map] at ev
        obtain ⟨t, et, rfl⟩ := Option.map_eq_some_iff.mp ev
        obtain ⟨q1, eq1, ht⟩ := paired_get kP et
        obtain ⟨qw, qr, ql⟩ := hE q1 (List.mem_of_getElem? eq1)
        have hTj : (E.map (·.1))[j]? = some q1.1 := by rw [List.getElem?_map, eq1]; rfl
        have hq1 : q1.1 ∈ rs.map (·.nm) := by rw [← qr]; exact runF_mem hc qw h0
        refine r_gTup (SqT.of (b1 _ _ (nt3 _ _ ht) (nt5 _ _ ht) ht)) rfl ?_
        walk_at "r"
        refine ⟨_, rfl, for_S (l := [110, 102, 115]) (fun k σ Y => ∃ y4 y5 N, σ = [some (.ref x), some (.str (S s0)), some (.ref wi), some (.ref p3), some (.ref e), some (.ref p5), some (.str (S q1.1)), some (.str (S q1.2)), y4, y5] ∧ But2 p3 p5 B Y ∧ Y p3 = some (.dK (wordsK (G ++ N))) ∧ EdgeAt Y p5 N ∧ RchM rs s0 (G.map (·.1)) (E.map (·.1)) (N.map (·.1)) j q1.1 k ∧ GoodW rs s0 (i + 1) (G ++ N)) ⟨_, _, N, rfl, b1, c3, c5, M.begin, GN⟩ ?_ ?_⟩
        · rintro k ch σ Z ek ⟨y4, y5, N, rfl, b2, d3, d5, M, GN⟩
          have hcl : ch = 110 ∨ ch = 102 ∨ ch = 115 := by have := List.mem_of_getElem? ek; simpa using this
          have sZ : Same H Z := But2.base sB b2 hp3 hp5H
          obtain ⟨dx, fs, st, x1, x2, hW⟩ := (hx.same sZ).steps
          obtain ⟨d2, w1, w2⟩ := ways_step hW hq1 hcl
          walk_at "r"
          refine ⟨x, _, dx, fs, _, rfl, x1, T.cl_Law, T.na_Law_steps, x2, ?_⟩
          walk_at "r"
          refine ⟨st, _, rfl, w1, ?_⟩
          walk_at "r"
          refine ⟨d2, _, rfl, w2, ?_⟩
          walk_at "r"
          have hgoal := toF_mem hc hq1 hcl
          obtain ⟨d3', w3, _⟩ := ways_step (hw.same sZ) hgoal (.inl rfl)
          refine ⟨wi, _, rfl, w3, ?_⟩
          walk_at "r"
          have gd : DGet Z p3 (.str (S (toF rs q1.1 ch))) (valV (wordsK (G ++ N)) (.inr (S (toF rs q1.1 ch)))) := DGet.k (k := .inr (S (toF rs q1.1 ch))) d3
          have nd2 : ((G ++ N).map (·.1)).Nodup := by rw [List.map_append]; exact M.nd
          refine r_true ?_
          walk_at "r"
          refine ⟨p3, _, rfl, gd, ?_⟩
          rw [words_some nd2]
          by_cases hin : toF rs q1.1 ch ∈ (G ++ N).map (·.1)
          · rw [decide_eq_true hin]
            walk_at "r"
            exact ⟨_, _, N, rfl, b2, d3, d5, M.old ek (by rw [← List.map_append]; exact hin), GN⟩
          · rw [decide_eq_false hin]
            walk_at "r"
            have hlen := rch_len M.r M.nd hc h0
            rw [← List.map_append, List.length_map] at hlen
            have hwl : (wordsK (G ++ N)).length ≤ 64 := by unfold wordsK; rw [List.length_map]; omega
            have hNl : N.length ≤ 64 := by rw [List.length_append] at hlen; omega
            refine r_addS (by simp; omega) ?_
            walk_at "r"
            refine ⟨p3, _, rfl, DPut.k (k := .inr (S (toF rs q1.1 ch))) d3 (lt_line (by omega)), ?_⟩
            rw [words_put hin]
            walk_at "r"
            have f3' : (upd Z p3 (.dK (wordsK (G ++ N ++ [(toF rs q1.1 ch, q1.2 ++ [ch])])))) p3 = some (.dK (wordsK (G ++ N ++ [(toF rs q1.1 ch, q1.2 ++ [ch])]))) := upd_same
            have bb := b2.pa (o := .dK (wordsK (G ++ N ++ [(toF rs q1.1 ch, q1.2 ++ [ch])])))
            have d5' := d5.put (o := .dK (wordsK (G ++ N ++ [(toF rs q1.1 ch, q1.2 ++ [ch])]))) d3
            generalize upd Z p3 (.dK (wordsK (G ++ N ++ [(toF rs q1.1 ch, q1.2 ++ [ch])]))) = Z2 at f3' bb d5' ⊢
            obtain ⟨us, eU, pU⟩ := id d5'
            refine ⟨_, rfl, .inl ⟨rfl, _, SqL.of eU⟩, ?_⟩
            walk_at "r"
            refine r_addS (by simp; omega) ?_
            walk_at "r"
            refine ⟨by show 2 ≤ sizeLine; decide, fun p9 hp9 => ?_⟩
            have s9 := same_new hp9 (o := .tup [.str (S (toF rs q1.1 ch)), .str (S (q1.2 ++ [ch]))])
            have h9 : (upd Z2 p9 (.tup [.str (S (toF rs q1.1 ch)), .str (S (q1.2 ++ [ch]))])) p9 = some (.tup [.str (S (toF rs q1.1 ch)), .str (S (q1.2 ++ [ch]))]) := upd_same
            have h3 := s9 _ _ f3'
            have b9 := bb.same s9
            have eU9 := s9 _ _ eU
            have pU9 := pU.mono (fun _ _ h => s9 _ _ h)
            generalize upd Z2 p9 (.tup [.str (S (toF rs q1.1 ch)), .str (S (q1.2 ++ [ch]))]) = Z3 at s9 h9 h3 b9 eU9 pU9 ⊢
            walk_at "r"
            refine ⟨p5, _, _, rfl, rfl, eU9, by rw [List.length_map, ← pU9.length]; exact lt_line (by omega), ?_⟩
            walk_at "r"
            rw [List.map_append] at hin
            refine ⟨_, _, N ++ [(toF rs q1.1 ch, q1.2 ++ [ch])], rfl, b9.pb, by rw [upd_ne n35, h3, List.append_assoc], EdgeAt.add (q := (toF rs q1.1 ch, q1.2 ++ [ch])) eU9 pU9 h9, ?_, by rw [← List.append_assoc]; exact GN.add qw qr ql hcl⟩
            rw [List.map_append]
            exact M.new R hTj ek hcl hin
        · rintro σ Z ⟨y4, y5, N, rfl, b2, d3, d5, M, GN⟩
          walk_at "r"
          exact ⟨_, _, _, _, N, rfl, b2, d3, d5, M.finish hTj, GN⟩
      · rintro σ Y ⟨y2, y3, y4, y5, N, rfl, b1, c3, c5, M, GN⟩
        walk_at "r"
        rw [List.length_map, ← pE.length, ← List.length_map (f := (·.1))] at M
        exact ⟨p5, _, _, _, _, _, G ++ N, N, rfl, But2.base sB b1 hp3 hp5H, c3, c5, by rw [List.map_append]; exact RchL.finish R M, GN, fun q hq => by obtain ⟨a, _, b, c⟩ := GN.w q (List.mem_append_right _ hq); exact ⟨a, b, c⟩⟩
def sp_is_whole (K : PySem.W.Frag) : Sp := fun vs H Q _ => ∃ i : Int, vs = [.int i] ∧ Q (.bl true) H
theorem ok_is_whole (T : Txt K mg) : Ok P w K mg base CX0 (1) "is_whole" s_is_whole ["value"] (sp_is_whole K) := by
  obtain ⟨fd, D⟩ := T.d_is_whole
  refine ⟨⟨_, fd, T.g_is_whole, D, D.bindsN (fun _ _ _ _ _ _ us hl => match us, hl with | [_], _ => rfl), ?_⟩⟩
  refine D.ok sc_is_whole (fun vs H Q E h => ?_) (fun cdv A outer s H vs Q E hr h => ?_)
  · obtain ⟨i, rfl, q⟩ := h
    rfl
  · obtain ⟨i, rfl, q⟩ := h
    refine ⟨_, PSs.nox (pss_one (ps_ret (pe_cmpR o_isT (pe_callTy call_type1 (by rfl) T.z_type (by decide +kernel) (pa_cons (pv 0) pa_nil)) (pe_bltn (v := .ty "int") (by rfl) T.z_int (by decide +kernel) rfl) (nomark _)))), ?_⟩
    walk_at "r"
    refine r_typ (.int _) ?_
    walk_at "r"
    exact q
def sp_need_number (K : PySem.W.Frag) : Sp := fun vs H Q _ => ∃ i m : Int, vs = [.int i, .int m] ∧ 0 ≤ i ∧ i ≤ m ∧ Q .non H
theorem ok_need_number (T : Txt K mg) : Ok P w K mg base CX0 (2) "need_number" s_need_number ["value", "most"] (sp_need_number K) := by
  obtain ⟨fd, D⟩ := T.d_need_number
  refine ⟨⟨_, fd, T.g_need_number, D, D.bindsN (fun _ _ _ _ _ _ us hl => match us, hl with | [_, _], _ => rfl), ?_⟩⟩
  refine D.ok sc_need_number (fun vs H Q E h => ?_) (fun cdv A outer s H vs Q E hr h => ?_)
  · obtain ⟨i, m, rfl, h0, h1, q⟩ := h
    rfl
  · obtain ⟨i, m, rfl, h0, h1, q⟩ := h
    have F_is_whole := ok_is_whole (P := P) (w := w) (K := K) (mg := mg) (base := base) T
    refine ⟨_, PSs.nox (pss_one (ps_if (PW.pt (pw_or (pt_not (pt_val (pe_cl F_is_whole hr (by rfl) pass0 (pa_cons (pv 0) pa_nil)))) (pw_or1 (pt_not (pt_chain op_le op_le pe_int (pv 0) (pv 1))))))
        (pss_one ps_never)
        pss_nil)), ?_⟩
    walk_at "r"
    refine ⟨i, rfl, ?_⟩
    walk_at "r"
    refine r_yesD h0 ?_
    walk_at "r"
    refine r_nyesD h1 ?_
    walk_at "r"
    exact q

def sp_place_behind (K : PySem.W.Frag) : Sp := fun vs H Q _ => ∃ (p : Int) (c : Nat), vs = [.int p, .str (S [c])] ∧ Fa c ∧ Q (.int (pst p c)) H
theorem ok_place_behind (T : Txt K mg) : Ok P w K mg base CX0 (1) "place_behind" s_place_behind ["at", "fate"] (sp_place_behind K) := by
  obtain ⟨fd, D⟩ := T.d_place_behind
  refine ⟨⟨_, fd, T.g_place_behind, D, D.bindsN (fun _ _ _ _ _ _ us hl => match us, hl with | [_, _], _ => rfl), ?_⟩⟩
  refine D.ok sc_place_behind (fun vs H Q E h => ?_) (fun cdv A outer s H vs Q E hr h => ?_)
  · obtain ⟨p, c, rfl, hc, q⟩ := h
    rfl
  · obtain ⟨p, c, rfl, hc, q⟩ := h
    refine ⟨_, PSs.nox (pss_one (ps_ret (pe_op op_add (pe_op op_mul pe_int (pv 0)) (pe_sx (pe_ix ix_tup (pe_glob (v := .ref _) (by rfl) T.c_BEHIND rfl) (pe_op op_mod (pv 0) pe_int) (fun _ _ => rfl)) (pv 1))))), ?_⟩
    walk_at "r"
    refine r_I (.inl ⟨by decide, by decide⟩) ?_
    walk_at "r"
    refine r_I (by show (0 : Int) < 2; decide) ?_
    obtain ⟨z, hz, rest, ho⟩ := behind_ix p hc
    refine r_ixT (T.t_BEHIND _) hz ?_
    refine ⟨⟨_, rfl⟩, ?_⟩
    walk_at "r"
    refine ⟨_, _, _, rest, rfl, rfl, ho, ?_⟩
    walk_at "r"
    exact q
def sp_width (K : PySem.W.Frag) : Sp := fun vs H Q _ => ∃ n : Nat, vs = [.int n] ∧ n ≤ 1000000 ∧ Q (.int (3 ^ n)) H
theorem ok_width (T : Txt K mg) : Ok P w K mg base CX0 (1) "width" s_width ["rounds"] (sp_width K) := by
  obtain ⟨fd, D⟩ := T.d_width
  refine ⟨⟨_, fd, T.g_width, D, D.bindsN (fun _ _ _ _ _ _ us hl => match us, hl with | [_], _ => rfl), ?_⟩⟩
  refine D.ok sc_width (fun vs H Q E h => ?_) (fun cdv A outer s H vs Q E hr h => ?_)
  · obtain ⟨n, rfl, hn, q⟩ := h
    rfl
  · obtain ⟨n, rfl, hn, q⟩ := h
    refine ⟨_, PSs.nox (pss_cons (ps_set (i := 1) sc_width.nd rfl (by first | exact Or.inl rfl | exact Or.inr rfl) pe_int)
      (pss_cons (ps_for PassesOwn.never rfl (pi_range1 (by rfl) T.z_range (pa_cons (pv 0) pa_nil)) (pg_name (i := 2) sc_width.nd rfl (by first | exact Or.inl rfl | exact Or.inr rfl))
        (pss_one (ps_set (i := 1) sc_width.nd rfl (by first | exact Or.inl rfl | exact Or.inr rfl) (pe_op op_mul pe_int (pv 1)))))
      (pss_one (ps_ret (pv 1))))), ?_⟩
    walk_at "r"
    refine ⟨_, rfl, by omega, by omega, for_range (n := n) (fun i σ H' => ∃ y, σ = [some (.int n), some (.int (3 ^ i)), y] ∧ H' = H) ⟨_, rfl, rfl⟩ ?_ ?_⟩
    · rintro i σ H' hi ⟨y, rfl, rfl⟩
      walk_at "r"
      refine r_I (.inl ⟨by decide, by decide⟩) ?_
      walk_at "r"
      exact ⟨_, by rw [Int.pow_succ, Int.mul_comm]; rfl, rfl⟩
    · rintro σ H' ⟨y, rfl, rfl⟩
      walk_at "r"
      exact q
def sp_word_with (K : PySem.W.Frag) : Sp := fun vs H Q _ => ∃ (n : Nat) (a : Int), vs = [.int n, .int a] ∧ n ≤ 1000 ∧ Q (.str (S (wdn n a))) H
theorem ok_word_with (T : Txt K mg) : Ok P w K mg base CX0 (1) "word_with" s_word_with ["rounds", "at"] (sp_word_with K) := by
  obtain ⟨fd, D⟩ := T.d_word_with
  refine ⟨⟨_, fd, T.g_word_with, D, D.bindsN (fun _ _ _ _ _ _ us hl => match us, hl with | [_, _], _ => rfl), ?_⟩⟩
  refine D.ok sc_word_with (fun vs H Q E h => ?_) (fun cdv A outer s H vs Q E hr h => ?_)
  · obtain ⟨n, a, rfl, hn, q⟩ := h
    rfl
  · obtain ⟨n, a, rfl, hn, q⟩ := h
    refine ⟨_, PSs.nox (pss_cons (ps_set (i := 2) sc_word_with.nd rfl (by first | exact Or.inl rfl | exact Or.inr rfl) (pe_strS [] (by rfl)))
      (pss_cons (ps_for PassesOwn.never rfl (pi_range1 (by rfl) T.z_range (pa_cons (pv 0) pa_nil)) (pg_name (i := 3) sc_word_with.nd rfl (by first | exact Or.inl rfl | exact Or.inr rfl))
        (pss_cons (ps_set (i := 4) sc_word_with.nd rfl (by first | exact Or.inl rfl | exact Or.inr rfl) (pe_op op_fdiv (pv 1) pe_int))
      (pss_cons (ps_set (i := 2) sc_word_with.nd rfl (by first | exact Or.inl rfl | exact Or.inr rfl) (pe_op o_addS (pe_ix ix_str (pe_ix ix_tup (pe_glob (v := .ref _) (by rfl) T.c_BEHIND rfl) (pe_op op_mod (pv 4) pe_int) (fun _ _ => rfl)) (pe_op op_mod (pv 1) pe_int) (fun _ _ => rfl)) (pv 2)))
      (pss_one (ps_set (i := 1) sc_word_with.nd rfl (by first | exact Or.inl rfl | exact Or.inr rfl) (pv 4))))))
      (pss_one (ps_ret (pv 2))))), ?_⟩
    walk_at "r"
    refine ⟨_, rfl, by omega, by omega, for_range (n := n) (fun i σ H' => ∃ (b : Int) (l : List Nat) (y3 y4 : Option V), σ = [some (.int n), some (.int b), some (.str (S l)), y3, y4] ∧ l.length = i ∧ wdn (n - i) b ++ l = wdn n a ∧ H' = H) ⟨a, [], _, _, rfl, rfl, by simp, rfl⟩ ?_ ?_⟩
    · rintro i σ H' hi ⟨b, l, y3, y4, rfl, hl, hw, rfl⟩
      walk_at "r"
      refine r_I (show CDiv _ _ from ⟨by decide, by decide⟩) ?_
      walk_at "r"
      refine r_I (by show (0 : Int) < 2; decide) ?_
      obtain ⟨cs, hz, hc3, hc⟩ := behind_at (b / 3) (j := b % 3) (by omega)
      refine r_ixT (T.t_BEHIND _) hz ?_
      walk_at "r"
      refine r_I (by show (0 : Int) < 3; decide) ?_
      refine r_ixS (by omega) hc ?_
      walk_at "r"
      refine r_addS (by simp; omega) ?_
      walk_at "r"
      exact ⟨b / 3, _, _, _, rfl, by simp; omega, by rw [← hw]; exact wdn_step hi b l, rfl⟩
    · rintro σ H' ⟨b, l, y3, y4, rfl, hl, hw, rfl⟩
      walk_at "r"
      rw [Nat.sub_self] at hw
      rw [show l = wdn n a from hw]
      exact q
def wonV (n : Nat) (p : Int) : V := if 0 ≤ p ∧ p < 3 ^ n then .str (S (wdn n p)) else .non
def sp_whole_row (K : PySem.W.Frag) : Sp := fun vs H Q _ => ∃ n : Nat, vs = [.int n] ∧ n ≤ 6 ∧ ∀ H' t, Same H H' → H' t = some (.tup ((rowW n).map fun w => V.str (S w))) → Q (.ref t) H'
theorem ok_whole_row (T : Txt K mg) : Ok P w K mg base CX0 (3) "whole_row" s_whole_row ["rounds"] (sp_whole_row K) := by
  obtain ⟨fd, D⟩ := T.d_whole_row
  refine ⟨⟨_, fd, T.g_whole_row, D, D.bindsN (fun _ _ _ _ _ _ us hl => match us, hl with | [_], _ => rfl), ?_⟩⟩
  refine D.ok sc_whole_row (fun vs H Q E h => ?_) (fun cdv A outer s H vs Q E hr h => ?_)
  · obtain ⟨n, rfl, hn, q⟩ := h
    rfl
  · obtain ⟨n, rfl, hn, q⟩ := h
    have F_need_number := ok_need_number (P := P) (w := w) (K := K) (mg := mg) (base := base) T
    have F_word_with := ok_word_with (P := P) (w := w) (K := K) (mg := mg) (base := base) T
    have F_width := ok_width (P := P) (w := w) (K := K) (mg := mg) (base := base) T
    refine ⟨_, PSs.nox (pss_cons (ps_expr (pe_cl F_need_number hr (by rfl) pass0 (pa_cons (pv 0) (pa_cons (pe_gint (by rfl) T.c_MOST_WHOLE) pa_nil))))
      (pss_one (ps_ret (pe_tupleOf (by rfl) T.z_tuple (pe_lc (own := [("at", 1)]) (g := gName 1) (tt := tYes) rfl sc_whole_row.nd (pi_range1 (by rfl) T.z_range (pa_cons (pe_cl F_width hr (by rfl) pass0 (pa_cons (pv 0) pa_nil)) pa_nil)) (blkOk_by (N := ["rounds", "at"]) (sc := defScope s_whole_row) (by decide +kernel)) (fun _ _ _ _ _ => (pg_name (i := 1) sc_whole_row.nd rfl (by first | exact Or.inl rfl | exact Or.inr rfl))) (fun _ _ _ _ _ => pts_nil) (fun _ _ _ _ _ => (pe_cl F_word_with hr (by rfl) pass0 (pa_cons (pv 0) (pa_cons (pv 1) pa_nil))))))))), ?_⟩
    walk_at "r"
    refine ⟨n, 6, rfl, by omega, by omega, ?_⟩
    walk_at "r"
    refine ⟨n, rfl, by omega, ?_⟩
    have h3 : (3 : Nat) ^ n ≤ 3 ^ 6 := Nat.pow_le_pow_right (by decide) hn
    have h6 : (3 : Nat) ^ 6 = 729 := by decide
    have ei : ((3 : Int) ^ n).toNat = 3 ^ n := by
      rw [show (3 : Int) ^ n = ((3 ^ n : Nat) : Int) by simp, Int.toNat_natCast]
    have p3 := pow3_pos n
    have p4 : (3 : Int) ^ n ≤ 729 := by
      rw [show (3 : Int) ^ n = ((3 ^ n : Nat) : Int) by simp]
      exact Int.ofNat_le.mpr (by omega)
    refine ⟨_, rfl, by omega, by omega, fun D hD => ?_⟩
    rw [ei]
    refine lc_acc (n := 3 ^ n) (fun i G => Same H G) (fun i v => v = .str (S (wdn n (i : Nat)))) (by omega) (same_new hD) (fun i G acc acc' e _ => Same.mut e hD) (fun i G hi e => hi) (fun G e => Nat.le_refl _) ?_ ?_
    · rintro i v G G2 acc hi e hacc ⟨rfl, rfl⟩ R hR
      walk_at "r"
      refine ⟨rfl, ?_⟩
      walk_at "r"
      refine ⟨n, _, rfl, by omega, hR _ _ hacc ?_ e⟩
      rw [Int.zero_add]
    · intro G acc hl hv hacc e
      rw [acc_row hl hv] at hacc
      refine .inl ⟨D, _, rfl, SqL.of hacc, fun t ht => ?_⟩
      exact q _ t (e.trans (same_new ht)) upd_same

def sp_leads_to (K : PySem.W.Frag) : Sp := fun vs H Q _ => ∃ x rs s p F, vs = [.ref x, .str (S s), .ref p] ∧ RuleAt (He.ga K "Law") H x rs ∧ LawG rs ∧ s ∈ rs.map (·.nm) ∧ H p = some (.dK (nK F)) ∧ (F.map (·.1)).Nodup ∧ ∀ H', Same H H' → Q (.bl (([110, 102, 115] : List Nat).any fun c => decide (toF rs s c ∈ F.map (·.1)))) H'
theorem ok_leads_to (T : Txt K mg) : Ok P w K mg base CX0 (1) "leads_to" s_leads_to ["rule", "name", "goals"] (sp_leads_to K) := by
  obtain ⟨fd, D⟩ := T.d_leads_to
  refine ⟨⟨_, fd, T.g_leads_to, D, D.bindsN (fun _ _ _ _ _ _ us hl => match us, hl with | [_, _, _], _ => rfl), ?_⟩⟩
  refine D.ok sc_leads_to (fun vs H Q E h => ?_) (fun cdv A outer s H vs Q E hr h => ?_)
  · obtain ⟨x, rs, s, p, F, rfl, hx, hg, hs, hp, nd, q⟩ := h
    rfl
  · obtain ⟨x, rs, s, p, F, rfl, hx, hg, hs, hp, nd, q⟩ := h
    refine ⟨_, PSs.nox (pss_one (ps_ret (pe_callB (cr_any rfl) (by rfl) T.z_any (by decide +kernel) (pa_cons (pe_lock (pe_lc (own := [("goal", 3)]) (g := gName 3) (tt := tYes) rfl sc_leads_to.nd (pi_values (pe_dget (hu_of hr) (pe_fld (pv 0) rfl) (pv 1) (fun _ _ => rfl))) (blkOk_by (N := ["rule", "name", "goals", "goal"]) (sc := defScope s_leads_to) (by decide +kernel)) (fun _ _ _ _ _ => (pg_name (i := 3) sc_leads_to.nd rfl (by first | exact Or.inl rfl | exact Or.inr rfl))) (fun _ _ _ _ _ => pts_nil) (fun _ _ _ _ _ => (pe_cmp (pc_din (hu_of hr) (pv 3) (pv 2)) rfl)))) pa_nil)))), ?_⟩
    obtain ⟨dx, fs, st, x1, x2, kvs, h1, h2⟩ := hx.steps
    obtain ⟨r, er, hr, rfl⟩ := rowOf_mem hs
    obtain ⟨d, e1, e2⟩ := ways_get h2 er
    have nx : x ≠ d := fun z => by subst z; rw [x1] at e2; cases e2
    have nst : st ≠ d := (ways_not h2 h1 e2).symm
    have np : p ≠ d := fun z => by subst z; rw [hp] at e2; exact nK_wK (by injection e2 with e2; injection e2)
    walk_at "r"
    refine ⟨d, _, e2, by trivial, fun od => ?_⟩
    walk_at "r"
    refine ⟨x, _, dx, fs, _, rfl, (upd_ne nx).trans x1, T.cl_Law, T.na_Law_steps, x2, ?_⟩
    walk_at "r"
    refine ⟨st, _, rfl, by rw [← e1]; exact DGet.k (k := .inr (S r.nm)) ((upd_ne nst).trans h1), ?_⟩
    refine ⟨d, od, _, rfl, upd_same, fun D hD => lc_J (n := 3) (fun i X => Same (upd H d (.frz od (.dK (wK r.way)))) X ∧ X D = some (.lst (((([110, 102, 115] : List Nat).take i).map fun c => decide (toF rs r.nm c ∈ F.map (·.1))).map V.bl))) ⟨same_new hD, upd_same⟩ (fun i X hi g => ⟨g.1 _ _ upd_same, hi⟩) (fun X g => ⟨g.1 _ _ upd_same, Nat.le_refl _⟩) ?_ ?_⟩
    · rintro i v X Y hi ⟨sX, eX⟩ ⟨rfl, k, ek⟩
      obtain ⟨c, ec, rfl⟩ := wK_at ek
      have pX := sX _ _ ((upd_ne np).trans hp)
      walk_at "r"
      refine ⟨rfl, ?_⟩
      walk_at "r"
      refine ⟨p, _, rfl, DGet.k (k := .inr (S (r.way c))) pX, ?_⟩
      rw [nK_some nd]
      refine ⟨_, eX, by rw [List.length_map, List.length_map, List.length_take]; exact lt_line (by simp; omega), Same.mut sX hD, ?_⟩
      rw [upd_same, take_snoc' ec, List.map_append, List.map_append, ← toF_eq er]
      rfl
    · rintro X ⟨sX, eX⟩
      refine ⟨sX _ _ upd_same, ?_⟩
      walk_at "r"
      have nD : D ≠ d := fresh_ne hD upd_same
      refine r_anyB (D := D) ((upd_ne nD).trans eX) ?_
      have := q _ (Same.unlock e2 sX)
      rw [List.any_map]
      exact this
def sp_fates_to (K : PySem.W.Frag) : Sp := fun vs H Q _ => ∃ (x g : Addr) (rs : List Tf.Row3) (L : List (List Nat)) (G : List Nat → Prop), vs = [.ref x, .ref g] ∧ RuleAt (He.ga K "Law") H x rs ∧ LawG rs ∧ H g = some (.lst (L.map fun l => V.str (S l))) ∧ L.Nodup ∧ (∀ s, s ∈ L ↔ s ∈ rs.map (·.nm) ∧ G s) ∧ ∀ H' p F, Same H H' → H' p = some (.dK (nK F)) → H p = none → Few rs G F → Q (.ref p) H'
theorem ok_fates_to (T : Txt K mg) : Ok P w K mg base CX0 (2) "fates_to" s_fates_to ["rule", "goals"] (sp_fates_to K) := by
  obtain ⟨fd, D⟩ := T.d_fates_to
  refine ⟨⟨_, fd, T.g_fates_to, D, D.bindsN (fun _ _ _ _ _ _ us hl => match us, hl with | [_, _], _ => rfl), ?_⟩⟩
  refine D.ok sc_fates_to (fun vs H Q E h => ?_) (fun cdv A outer s H vs Q E hr h => ?_)
  · obtain ⟨x, g, rs, L, G, rfl, hx, hg, hL, nL, mL, q⟩ := h
    rfl
  · obtain ⟨x, g, rs, L, G, rfl, hx, hg, hL, nL, mL, q⟩ := h
    have F_leads_to := ok_leads_to (P := P) (w := w) (K := K) (mg := mg) (base := base) T
    refine ⟨_, PSs.nox (pss_cons (ps_set (i := 2) sc_fates_to.nd rfl (by first | exact Or.inl rfl | exact Or.inr rfl) (pe_dc (own := [("name", 5)]) (g := gName 5) (tt := tYes) rfl sc_fates_to.nd (pi_list (pv 1)) (blkOk_by (N := ["rule", "goals", "fewest", "many", "ahead", "name"]) (sc := defScope s_fates_to) (by decide +kernel)) (fun _ _ _ _ _ => (pg_name (i := 5) sc_fates_to.nd rfl (by first | exact Or.inl rfl | exact Or.inr rfl))) (fun _ _ _ _ _ => pts_nil) (fun _ _ _ _ _ => (pv 5)) (fun _ _ _ _ _ => pe_int)))
      (pss_cons (ps_set (i := 3) sc_fates_to.nd rfl (by first | exact Or.inl rfl | exact Or.inr rfl) pe_int)
      (pss_one (ps_while PassesOwn.never (pt_val pe_bl) (pss_cons (ps_setLc (i := 4) (own := [("name", 5)]) (g := gName 5) rfl sc_fates_to.nd rfl rfl (sw_true rfl rfl rfl rfl) (pi_tup (pe_fld (pv 0) rfl)) (blkOk_by (N := ["rule", "goals", "fewest", "many", "ahead", "name"]) (sc := defScope s_fates_to) (by decide +kernel)) (fun _ _ _ _ _ => (pg_name (i := 5) sc_fates_to.nd rfl (by first | exact Or.inl rfl | exact Or.inr rfl))) (fun _ _ _ _ _ => (pts_one (PW.pt (pw_and (pt_cmp (pc_dnotin (hu_of hr) (pv 5) (pv 2)) rfl) (pw_and1 (pt_val (pe_cl F_leads_to hr (by rfl) pass0 (pa_cons (pv 0) (pa_cons (pv 5) (pa_cons (pv 2) pa_nil)))))))))) (fun _ _ _ _ _ => (pv 5)))
      (pss_cons (ps_if (pt_not (pt_truth (pv 4) (by intro _; rfl)))
        (pss_one (ps_ret (pv 2)))
        pss_nil)
      (pss_cons (ps_aug (i := 3) sc_fates_to.nd rfl (by first | exact Or.inl rfl | exact Or.inr rfl) pe_int ip_add)
      (pss_one (ps_for PassesOwn.never rfl (pi_list (pv 4)) (pg_name (i := 5) sc_fates_to.nd rfl (by first | exact Or.inl rfl | exact Or.inr rfl))
        (pss_one (ps_dput (hu_of hr) (pv 2) (pv 5) (pv 3) (by rfl)))))))))))), ?_⟩
    have hc := hg.cl
    have hln := hg.len
    have lL : L.length ≤ 64 := by
      have := nodup_le _ (rs.map (·.nm)) nL fun s hs => ((mL s).mp hs).1
      rw [List.length_map] at this
      omega
    walk_at "r"
    refine ⟨g, rfl, ⟨_, SqL.of hL⟩, fun D hD => dc_list (K := K) (a := g) (xs := L.map fun l => V.str (S l)) (fun i X => Same H X ∧ X D = some (.dK (nK ((L.take i).map fun s => (s, 0))))) ⟨same_new hD, upd_same⟩ (fun i X g => SqL.of (g.1 _ _ hL)) ?_ ?_⟩
    · rintro i v X ev ⟨sX, eX⟩
      rw [List.getElem?_map] at ev
      obtain ⟨l, el, rfl⟩ := Option.map_eq_some_iff.mp ev
      have hi : i < L.length := (List.getElem?_eq_some_iff.mp el).1
      walk_at "r"
      refine ⟨rfl, ?_⟩
      walk_at "r"
      refine ⟨_, .inr (S l), rfl, eX, by rw [nK_len, List.length_map, List.length_take]; exact lt_line (by omega), Same.mut sX hD, ?_⟩
      rw [upd_same, show V.int 0 = V.int ((0 : Nat) : Int) from rfl, nK_put (fun z => ?_), take_snoc' el, List.map_append]
      · rfl
      · rw [List.map_map] at z
        obtain ⟨l2, h2, rfl⟩ := List.mem_map.mp z
        have h3 : (L.take (i + 1)).Nodup := List.Sublist.nodup (List.take_sublist ..) nL
        rw [take_snoc' el, List.nodup_append] at h3
        exact h3.2.2 _ h2 _ (List.mem_singleton.mpr rfl) rfl
    · rintro X ⟨sX, eX⟩
      rw [List.length_map, List.take_length] at eX
      walk_at "r"
      refine r_while ⟨fun m σ X => ∃ k F y4 y5, m = rs.length + 1 - k ∧ σ = [some (.ref x), some (.ref g), some (.ref D), some (.int (k : Nat)), y4, y5] ∧ Same H X ∧ X D = some (.dK (nK F)) ∧ FewL rs G k F, ⟨_, 0, _, _, _, rfl, rfl, sX, eX, FewL.zero nL mL⟩, ?_⟩
      rintro m σ X ⟨k, F, y4, y5, rfl, rfl, sX, eX, hF⟩
      have lF := hF.len
      have kF := hF.g
      walk_at "r"
      refine ⟨fun σ' X' => ∃ F y4 y5, σ' = [some (.ref x), some (.ref g), some (.ref D), some (.int ((k + 1 : Nat))), y4, y5] ∧ Same H X' ∧ X' D = some (.dK (nK F)) ∧ FewL rs G (k + 1) F, fun σ' X' ⟨F, y4, y5, e, s, f, h⟩ => ⟨rs.length + 1 - (k + 1), by omega, k + 1, F, y4, y5, rfl, e, s, f, h⟩, ?_⟩
      walk_at "r"
      obtain ⟨dx, fs, nn, x1, x2, x3⟩ := (hx.same sX).names
      refine ⟨x, _, dx, fs, _, rfl, x1, T.cl_Law, T.na_Law_names, x2, ?_⟩
      obtain ⟨go, st⟩ := itt_go (SqT.of (K := K) x3) (n := (rs.map fun r : Tf.Row3 => r.nm).length) (by simp)
      refine ⟨nn, rfl, ⟨_, SqT.of x3⟩, fun D2 hD2 => lc_filt (J := Itt K nn) (ls := rs.map fun r : Tf.Row3 => r.nm) (fun l => V.str (S l)) (fun s => decide (s ∉ F.map (·.1)) && ([110, 102, 115] : List Nat).any fun c => decide (toF rs s c ∈ F.map (·.1))) hD2 (by rw [List.length_map]; omega) go st ?_ ?_⟩
      · rintro i l Y' Y v el sY ⟨rfl, fy⟩ R hR
        have ev := fy _ (SqT.of (sY _ _ x3))
        rw [List.getElem?_map, el] at ev
        obtain rfl : V.str (S l) = v := Option.some.inj ev
        have sXY := Same.trans sX sY
        have eY := sY _ _ eX
        walk_at "r"
        refine ⟨rfl, ?_⟩
        walk_at "r"
        refine ⟨D, _, rfl, DGet.k (k := .inr (S l)) eY, ?_⟩
        rw [nK_some hF.nd]
        by_cases hin : l ∈ F.map (·.1)
        · rw [decide_eq_true hin]
          walk_at "r"
          exact hR _ _ _ (by rw [decide_eq_false (not_not_intro hin), Bool.false_and]) (fun R' h => by walk_at "r"; exact h) (Same.refl _)
        · rw [decide_eq_false hin]
          walk_at "r"
          refine ⟨x, rs, l, D, F, rfl, hx.same sXY, hg, List.mem_of_getElem? el, eY, hF.nd, fun Z sZ => ?_⟩
          walk_at "r"
          exact hR _ _ _ (by rw [decide_eq_true hin, Bool.true_and]) (fun R' h => by walk_at "r"; exact h) sZ
      · intro Y sY eY2
        change Y D2 = some (.lst ((nextF rs F).map fun l => V.str (S l))) at eY2
        walk_at "r"
        have eY := sY _ _ eX
        have sXY := Same.trans sX sY
        by_cases hn : nextF rs F = []
        · refine ⟨false, .inl ⟨_, SqL.of eY2, by rw [hn]; rfl⟩, ?_⟩
          walk_at "r"
          exact q _ _ F sXY eY hD (hF.done hc hn)
        · refine ⟨true, .inl ⟨_, SqL.of eY2, by cases hz : nextF rs F with | nil => exact absurd hz hn | cons _ _ => rfl⟩, ?_⟩
          walk_at "r"
          refine ⟨_, rfl, ?_⟩
          walk_at "r"
          refine ⟨_, _, rfl, rfl, ?_⟩
          walk_at "r"
          have iv := FewL.step hF hc hg.u hn
          have hnl : (nextF rs F).length ≤ 64 := by
            have := iv.len
            rw [List.length_append, List.length_map] at this
            omega
          have hmx : ∀ n ∈ nextF rs F, n ∉ F.map (·.1) := fun n hn => (mem_nextF.mp hn).2.1
          have hnd : (nextF rs F).Nodup := List.Sublist.nodup List.filter_sublist hg.u
          refine ⟨D2, rfl, ⟨_, SqL.of eY2⟩, for_list (K := K) (a := D2) (xs := (nextF rs F).map fun l => V.str (S l)) (fun i σ Z => ∃ y5, σ = [some (.ref x), some (.ref g), some (.ref D), some (.int ((k + 1 : Nat))), some (.ref D2), y5] ∧ Same H Z ∧ Z D2 = some (.lst ((nextF rs F).map fun l => V.str (S l))) ∧ Z D = some (.dK (nK (F ++ ((nextF rs F).take i).map fun s => (s, k + 1))))) ⟨_, rfl, sXY, eY2, by simpa using eY⟩ (fun i σ Z _ h => by obtain ⟨_, _, _, h, _⟩ := h; exact SqL.of h) ?_ ?_⟩
          · rintro i v σ Z ev ⟨y5, rfl, sZ, eZ2, eZ⟩
            rw [List.getElem?_map] at ev
            obtain ⟨l, el, rfl⟩ := Option.map_eq_some_iff.mp ev
            have hi : i < (nextF rs F).length := (List.getElem?_eq_some_iff.mp el).1
            have nDD : D ≠ D2 := fun z => by subst z; rw [eZ] at eZ2; cases eZ2
            walk_at "r"
            refine ⟨D, _, rfl, DPut.k (k := .inr (S l)) eZ (by rw [nK_len, List.length_append, List.length_map, List.length_take]; exact lt_line (by omega)), ?_⟩
            walk_at "r"
            refine ⟨_, rfl, Same.mut sZ hD, (upd_ne nDD.symm).trans eZ2, ?_⟩
            rw [upd_same, nK_put (fun z => ?_), take_snoc' el, List.map_append, List.append_assoc]
            · rfl
            · rw [List.map_append, List.mem_append, List.map_map] at z
              rcases z with z | z
              · exact hmx l (List.mem_of_getElem? el) z
              · obtain ⟨l2, h2, rfl⟩ := List.mem_map.mp z
                have h3 : ((nextF rs F).take (i + 1)).Nodup := List.Sublist.nodup (List.take_sublist ..) hnd
                rw [take_snoc' el, List.nodup_append] at h3
                exact h3.2.2 _ h2 _ (List.mem_singleton.mpr rfl) rfl
          · rintro σ Z ⟨y5, rfl, sZ, eZ2, eZ⟩
            rw [List.length_map, List.take_length] at eZ
            walk_at "r"
            exact ⟨_, _, _, rfl, sZ, eZ, iv⟩
def sp_living (K : PySem.W.Frag) : Sp := fun vs H Q _ => ∃ (x : Addr) (rs : List Tf.Row3), vs = [.ref x] ∧ RuleAt (He.ga K "Law") H x rs ∧ LawG rs ∧ ∀ H' p F, Same H H' → H' p = some (.dK (nK F)) → H p = none → Few rs (Ring rs) F → Q (.ref p) H'
theorem ok_living (T : Txt K mg) : Ok P w K mg base CX0 (3) "living" s_living ["rule"] (sp_living K) := by
  obtain ⟨fd, D⟩ := T.d_living
  refine ⟨⟨_, fd, T.g_living, D, D.bindsN (fun _ _ _ _ _ _ us hl => match us, hl with | [_], _ => rfl), ?_⟩⟩
  refine D.ok sc_living (fun vs H Q E h => ?_) (fun cdv A outer s H vs Q E hr h => ?_)
  · obtain ⟨x, rs, rfl, hx, hg, q⟩ := h
    rfl
  · obtain ⟨x, rs, rfl, hx, hg, q⟩ := h
    have F_fates_to := ok_fates_to (P := P) (w := w) (K := K) (mg := mg) (base := base) T
    have F_ways_from := ok_ways_from (P := P) (w := w) (K := K) (mg := mg) (base := base) T
    refine ⟨_, PSs.nox (pss_one (ps_ret (pe_cl F_fates_to hr (by rfl) pass0 (pa_cons (pv 0) (pa_cons (pe_lc (own := [("name", 1)]) (g := gName 1) rfl sc_living.nd (pi_tup (pe_fld (pv 0) rfl)) (blkOk_by (N := ["rule", "name"]) (sc := defScope s_living) (by decide +kernel)) (fun _ _ _ _ _ => (pg_name (i := 1) sc_living.nd rfl (by first | exact Or.inl rfl | exact Or.inr rfl))) (fun _ _ _ _ _ => (pts_one (pt_cmp (pc_din (hu_of hr) (pv 1) (pe_cl F_ways_from hr (by rfl) pass0 (pa_cons (pv 0) (pa_cons (pv 1) (pa_cons (pe_fldK (K := K) rfl (pv 0) rfl) pa_nil))))) rfl))) (fun _ _ _ _ _ => (pv 1))) pa_nil))))), ?_⟩
    have hln := hg.len
    have hol := oftens_le (rs := rs)
    walk_at "r"
    obtain ⟨dx, fs, nn, x1, x2, x3⟩ := hx.often
    refine ⟨x, _, dx, fs, _, rfl, x1, T.cl_Law, T.na_Law_often, x2, ?_⟩
    obtain ⟨go, st⟩ := itt_go (SqT.of (K := K) x3) (n := (oftens rs).length) (by simp)
    refine ⟨nn, rfl, ⟨_, SqT.of x3⟩, fun D hD => lc_filt (J := Itt K nn) (ls := oftens rs) (fun l => V.str (S l)) (ringB rs) hD (by omega) go st ?_ ?_⟩
    · rintro i l Y' Y v el sY ⟨rfl, fy⟩ R hR
      have ev := fy _ (SqT.of (sY _ _ x3))
      rw [List.getElem?_map, el] at ev
      obtain rfl : V.str (S l) = v := Option.some.inj ev
      have hl := oftens_mem (List.mem_of_getElem? el)
      walk_at "r"
      refine ⟨rfl, ?_⟩
      walk_at "r"
      obtain ⟨dx, fs, st, x1, x2, hW⟩ := (hx.same sY).steps
      refine ⟨x, _, dx, fs, _, rfl, x1, T.cl_Law, T.na_Law_steps, x2, ?_⟩
      walk_at "r"
      refine ⟨x, rs, l, st, rfl, hx.same sY, hg, hl, hW, fun Z p G sZ eZ _ nd _ mG => ?_⟩
      refine ⟨p, _, rfl, DGet.k (k := .inr (S l)) eZ, ?_⟩
      rw [words_some nd]
      walk_at "r"
      exact hR _ _ _ (by rw [Bool.eq_iff_iff, ringB_iff, decide_eq_true_eq, mG]) (fun R' h => by walk_at "r"; exact h) sZ
    · intro Y sY eY
      walk_at "r"
      refine ⟨x, D, rs, _, Ring rs, rfl, hx.same sY, hg, eY, List.Sublist.nodup List.filter_sublist (oftens_nodup hg.u), rings_mem hg.u, fun Z p F sZ eZ fZ hF => ?_⟩
      exact q _ p F (Same.trans sY sZ) eZ (same_free sY fZ) hF
def sp_fates_to_break (K : PySem.W.Frag) : Sp := fun vs H Q _ => ∃ (x : Addr) (rs : List Tf.Row3), vs = [.ref x] ∧ RuleAt (He.ga K "Law") H x rs ∧ LawG rs ∧ ∀ H' p F, Same H H' → H' p = some (.dK (nK F)) → H p = none → Few rs (Dead rs) F → Q (.ref p) H'
theorem ok_fates_to_break (T : Txt K mg) : Ok P w K mg base CX0 (4) "fates_to_break" s_fates_to_break ["rule"] (sp_fates_to_break K) := by
  obtain ⟨fd, D⟩ := T.d_fates_to_break
  refine ⟨⟨_, fd, T.g_fates_to_break, D, D.bindsN (fun _ _ _ _ _ _ us hl => match us, hl with | [_], _ => rfl), ?_⟩⟩
  refine D.ok sc_fates_to_break (fun vs H Q E h => ?_) (fun cdv A outer s H vs Q E hr h => ?_)
  · obtain ⟨x, rs, rfl, hx, hg, q⟩ := h
    rfl
  · obtain ⟨x, rs, rfl, hx, hg, q⟩ := h
    have F_living := ok_living (P := P) (w := w) (K := K) (mg := mg) (base := base) T
    have F_fates_to := ok_fates_to (P := P) (w := w) (K := K) (mg := mg) (base := base) T
    refine ⟨_, PSs.nox (pss_cons (ps_set (i := 1) sc_fates_to_break.nd rfl (by first | exact Or.inl rfl | exact Or.inr rfl) (pe_cl F_living hr (by rfl) pass0 (pa_cons (pv 0) pa_nil)))
      (pss_one (ps_ret (pe_cl F_fates_to hr (by rfl) pass0 (pa_cons (pv 0) (pa_cons (pe_lc (own := [("name", 2)]) (g := gName 2) rfl sc_fates_to_break.nd (pi_tup (pe_fld (pv 0) rfl)) (blkOk_by (N := ["rule", "alive", "name"]) (sc := defScope s_fates_to_break) (by decide +kernel)) (fun _ _ _ _ _ => (pg_name (i := 2) sc_fates_to_break.nd rfl (by first | exact Or.inl rfl | exact Or.inr rfl))) (fun _ _ _ _ _ => (pts_one (pt_cmp (pc_dnotin (hu_of hr) (pv 2) (pv 1)) rfl))) (fun _ _ _ _ _ => (pv 2))) pa_nil)))))), ?_⟩
    have hln := hg.len
    walk_at "r"
    refine ⟨x, rs, rfl, hx, hg, fun H1 p1 F1 s1 e1 _ hF1 => ?_⟩
    walk_at "r"
    obtain ⟨dx, fs, nn, x1, x2, x3⟩ := (hx.same s1).names
    refine ⟨x, _, dx, fs, _, rfl, x1, T.cl_Law, T.na_Law_names, x2, ?_⟩
    obtain ⟨go, st⟩ := itt_go (SqT.of (K := K) x3) (n := (rs.map fun r : Tf.Row3 => r.nm).length) (by simp)
    refine ⟨nn, rfl, ⟨_, SqT.of x3⟩, fun D hD => lc_filt (J := Itt K nn) (ls := rs.map fun r : Tf.Row3 => r.nm) (fun l => V.str (S l)) (deadB rs) hD (by rw [List.length_map]; omega) go st ?_ ?_⟩
    · rintro i l Y' Y v el sY ⟨rfl, fy⟩ R hR
      have ev := fy _ (SqT.of (sY _ _ x3))
      rw [List.getElem?_map, el] at ev
      obtain rfl : V.str (S l) = v := Option.some.inj ev
      walk_at "r"
      refine ⟨rfl, ?_⟩
      walk_at "r"
      refine ⟨p1, _, rfl, DGet.k (k := .inr (S l)) (sY _ _ e1), ?_⟩
      rw [nK_some hF1.nd, dead_few hF1 (List.mem_of_getElem? el)]
      walk_at "r"
      exact hR _ _ _ rfl (fun R' h => by walk_at "r"; exact h) (Same.refl _)
    · intro Y sY eY
      walk_at "r"
      refine ⟨x, D, rs, _, Dead rs, rfl, (hx.same s1).same sY, hg, eY, List.Sublist.nodup List.filter_sublist hg.u, fun s => by rw [List.mem_filter, deadB_iff], fun Z p F sZ eZ fZ hF => ?_⟩
      exact q _ p F (Same.trans (Same.trans s1 sY) sZ) eZ (same_free (Same.trans s1 sY) fZ) hF
def sp_least_rounds (K : PySem.W.Frag) : Sp := fun vs H Q _ => ∃ (x : Addr) (rs : List Tf.Row3), vs = [.ref x] ∧ RuleAt (He.ga K "Law") H x rs ∧ LawG rs ∧ ∀ H' o, Same H H' → LeastR rs o → Q (natV o) H'
theorem ok_least_rounds (T : Txt K mg) : Ok P w K mg base CX0 (5) "least_rounds" s_least_rounds ["rule"] (sp_least_rounds K) := by
  obtain ⟨fd, D⟩ := T.d_least_rounds
  refine ⟨⟨_, fd, T.g_least_rounds, D, D.bindsN (fun _ _ _ _ _ _ us hl => match us, hl with | [_], _ => rfl), ?_⟩⟩
  refine D.ok sc_least_rounds (fun vs H Q E h => ?_) (fun cdv A outer s H vs Q E hr h => ?_)
  · obtain ⟨x, rs, rfl, hx, hg, q⟩ := h
    rfl
  · obtain ⟨x, rs, rfl, hx, hg, q⟩ := h
    have F_fates_to_break := ok_fates_to_break (P := P) (w := w) (K := K) (mg := mg) (base := base) T
    refine ⟨_, PSs.nox (pss_one (ps_ret (pe_dget1 (hu_of hr) (pe_cl F_fates_to_break hr (by rfl) pass0 (pa_cons (pv 0) pa_nil)) (pe_ix ix_tup (pe_fld (pv 0) rfl) pe_int (fun _ _ => rfl)) ⟨by rfl, by rfl, by rfl, by rfl⟩))), ?_⟩
    walk_at "r"
    refine ⟨x, rs, rfl, hx, hg, fun H1 p1 F1 s1 e1 _ hF1 => ?_⟩
    refine ⟨p1, rfl, .inl ⟨_, .inl e1⟩, ?_⟩
    walk_at "r"
    obtain ⟨dx, fs, nn, x1, x2, x3⟩ := (hx.same s1).names
    refine ⟨x, _, dx, fs, _, rfl, x1, T.cl_Law, T.na_Law_names, x2, ?_⟩
    walk_at "r"
    obtain ⟨r0, hr0, er0⟩ := first_ix hg.ne
    refine r_ixT (SqT.of x3) (atI_nat (j := 0) (v := V.str (S r0.nm)) (by rw [List.getElem?_map, List.getElem?_map, hr0]; rfl)) ?_
    rw [er0]
    obtain ⟨o, eo, ho⟩ := hF1.least hg.ne
    refine ⟨_, DGet.k (k := .inr (S (firstOf rs))) e1, ?_⟩
    rw [eo]
    have := q H1 o s1 ho
    cases o with
    | none => exact this
    | some n => exact this
def sp_first_barredS (K : PySem.W.Frag) : Sp := fun vs H Q _ => ∃ (x p : Addr) (rs : List Tf.Row3) (n : Nat) (o : Int → List Nat), vs = [.ref x, .int n, .ref p] ∧ RuleAt (He.ga K "Law") H x rs ∧ LawG rs ∧ n ≤ 200 ∧ SqT K H p [.str (S (o 0)), .str (S (o 1))] ∧ SeqO o ∧ deadIn rs n [] ∧ ∀ H', Same H H' → Q (.str (S (grd rs o n []))) H'
theorem ok_first_barredS (T : Txt K mg) : Ok P w K mg base CX0 (5) "first_barred" s_first_barred ["rule", "rounds", "sequences"] (sp_first_barredS K) := by
  obtain ⟨fd, D⟩ := T.d_first_barred
  refine ⟨⟨_, fd, T.g_first_barred, D, D.bindsN (fun _ _ _ _ _ _ us hl => match us, hl with | [_, _, _], _ => rfl), ?_⟩⟩
  refine D.ok sc_first_barred (fun vs H Q E h => ?_) (fun cdv A outer s H vs Q E hr h => ?_)
  · obtain ⟨x, p, rs, n, o, rfl, hx, hg, hn, hp, ho, hd, q⟩ := h
    rfl
  · obtain ⟨x, p, rs, n, o, rfl, hx, hg, hn, hp, ho, hd, q⟩ := h
    have F_fates_to_break := ok_fates_to_break (P := P) (w := w) (K := K) (mg := mg) (base := base) T
    have F_place_behind := ok_place_behind (P := P) (w := w) (K := K) (mg := mg) (base := base) T
    refine ⟨_, PSs.nox (pss_cons (ps_set (i := 3) sc_first_barred.nd rfl (by first | exact Or.inl rfl | exact Or.inr rfl) (pe_cl F_fates_to_break hr (by rfl) pass0 (pa_cons (pv 0) pa_nil)))
      (pss_cons (ps_par3 (i := 5) (j := 6) (l := 7) (by rfl) sc_first_barred.nd rfl rfl rfl (by decide) (by decide) (by decide) rfl rfl rfl (pa_cons (pe_ix ix_tup (pe_fld (pv 0) rfl) pe_int (fun _ _ => rfl)) (pa_cons (pe_strS [] (by rfl)) (pa_cons pe_int pa_nil))) (by rfl))
      (pss_cons (ps_for PassesOwn.never rfl (pi_revR (by rfl) T.z_reversed (prg_1 (by rfl) T.z_range (pv 1))) (pg_name (i := 4) sc_first_barred.nd rfl (by first | exact Or.inl rfl | exact Or.inr rfl))
        (pss_cons (ps_set (i := 8) sc_first_barred.nd rfl (by first | exact Or.inl rfl | exact Or.inr rfl) (pe_dget (hu_of hr) (pe_fld (pv 0) rfl) (pv 5) (fun _ _ => rfl)))
      (pss_cons (ps_setLc (i := 9) (own := [("fate", 10)]) (g := gName 10) rfl sc_first_barred.nd rfl rfl (sw_true rfl rfl rfl rfl) (pi_str (pe_ix ix_tup (pv 2) (pe_op op_mod (pv 7) pe_int) (fun _ _ => rfl))) (blkOk_by (N := ["rule", "rounds", "sequences", "fewest", "left", "state", "word", "at", "goals", "fates", "fate"]) (sc := defScope s_first_barred) (by decide +kernel)) (fun _ _ _ _ _ => (pg_name (i := 10) sc_first_barred.nd rfl (by first | exact Or.inl rfl | exact Or.inr rfl))) (fun _ _ _ _ _ => (pts_one (PW.pt (pw_and (pt_cmp (pc_din (hu_of hr) (pe_dget (by exact hu_of hr) (pv 8) (pv 10) (fun _ _ => rfl)) (pv 3)) rfl) (pw_and1 (pt_cmpR op_le (pe_dget (by exact hu_of hr) (pv 3) (pe_dget (by exact hu_of hr) (pv 8) (pv 10) (fun _ _ => rfl)) (fun _ _ => rfl)) (pv 4) (nomark _))))))) (fun _ _ _ _ _ => (pv 10)))
      (pss_one (ps_par3 (i := 5) (j := 6) (l := 7) (by rfl) sc_first_barred.nd rfl rfl rfl (by decide) (by decide) (by decide) rfl rfl rfl (pa_cons (pe_dget (hu_of hr) (pv 8) (pe_ix ix_list (pv 9) pe_int (fun _ _ => rfl)) (fun _ _ => rfl)) (pa_cons (pe_op o_addS (pv 6) (pe_ix ix_list (pv 9) pe_int (fun _ _ => rfl))) (pa_cons (pe_cl F_place_behind hr (by rfl) pass0 (pa_cons (pv 7) (pa_cons (pe_ix ix_list (pv 9) pe_int (fun _ _ => rfl)) pa_nil))) pa_nil))) (by rfl))))))
      (pss_one (ps_ret (pv 6)))))), ?_⟩
    have hln := hg.len
    walk_at "r"
    refine ⟨x, rs, rfl, hx, hg, fun H1 p1 F s1 e1 _ hF => ?_⟩
    walk_at "r"
    obtain ⟨dx, fs, nn, x1, x2, x3⟩ := (hx.same s1).names
    refine ⟨x, _, dx, fs, _, rfl, x1, T.cl_Law, T.na_Law_names, x2, ?_⟩
    walk_at "r"
    obtain ⟨r0, hr0, er0⟩ := first_ix hg.ne
    refine r_ixT (SqT.of x3) (atI_nat (j := 0) (v := V.str (S r0.nm)) (by rw [List.getElem?_map, List.getElem?_map, hr0]; rfl)) ?_
    rw [er0]
    walk_at "r"
    refine ⟨_, _, _, rfl, ?_⟩
    walk_at "r"
    refine ⟨by omega, by omega, by omega, by omega, ?_⟩
    rw [show ((n : Int) - 0).toNat = n by omega]
    refine for_J (n := n) (fun i σ X => ∃ y4 y8 y9 wd, σ = [some (.ref x), some (.int n), some (.ref p), some (.ref p1), y4, some (.str (S (runF rs (firstOf rs) wd))), some (.str (S wd)), some (.int (pl wd)), y8, y9, none] ∧ Same H1 X ∧ Wd wd ∧ wd.length = i ∧ deadIn rs (n - i) wd ∧ grd rs o (n - i) wd = grd rs o n []) ⟨_, _, _, [], rfl, Same.refl _, (fun _ h => nomatch h), rfl, hd, rfl⟩ (fun i σ X hi _ => hi) (fun σ X _ => Nat.le_refl _) ?_ ?_
    · rintro i v σ X Y hi ⟨y4, y8, y9, wd, rfl, sX, hw, hwl, hdd, hgr⟩ ⟨rfl, rfl⟩
      with_reducible refine Tf.r_name ?_
      obtain ⟨left, hleft⟩ : ∃ left, n - i = left + 1 := ⟨n - i - 1, by omega⟩
      rw [hleft] at hdd hgr
      rw [show (0 + ((n : Nat) : Int) - 1 + ((i : Nat) : Int) * -1) = (left : Int) by omega]
      have hs := runF_mem hg.cl hw (first_mem hg.ne)
      obtain ⟨r, er, hr, ers⟩ := rowOf_mem hs
      obtain ⟨dx, fs, st, x1, x2, kvs, h1, h2⟩ := ((hx.same s1).same sX).steps
      obtain ⟨d, e2, e3⟩ := ways_get h2 er
      walk_at "r"
      refine ⟨x, _, dx, fs, _, rfl, x1, T.cl_Law, T.na_Law_steps, x2, ?_⟩
      walk_at "r"
      refine ⟨st, _, rfl, by rw [← e2]; exact DGet.k (k := .inr (S (runF rs (firstOf rs) wd))) h1, ?_⟩
      walk_at "r"
      refine r_I (by show (0 : Int) < 2; decide) ?_
      have hpm : pl wd % 2 = 0 ∨ pl wd % 2 = 1 := by omega
      refine r_ixT (Same.sqt (Same.trans s1 sX) hp) (v := .str (S (o (pl wd % 2)))) (by rcases hpm with h | h <;> rw [h] <;> rfl) ?_
      have hol := ho.l (pl wd % 2)
      have e1Y := sX _ _ e1
      refine ⟨_, rfl, fun D hD => lc_filt (J := Its (S (o (pl wd % 2)))) (ls := (o (pl wd % 2)).map fun c => [c]) (fun l => V.str (S l)) (fun l => @decide (deadIn rs left (wd ++ l)) (Classical.propDecidable _)) hD (by rw [List.length_map]; omega) (fun j Z hj _ => ?_) (fun Z _ => ?_) ?_ ?_⟩
      · rw [List.length_map] at hj
        show j < (S _).cps.size
        rw [show (S (o (pl wd % 2))).cps.size = (o (pl wd % 2)).length by unfold S; simp]
        exact hj
      · rw [List.length_map]
        show (S _).cps.size ≤ _
        rw [show (S (o (pl wd % 2))).cps.size = (o (pl wd % 2)).length by unfold S; simp]
        exact Nat.le_refl _
      · rintro j l Z' Z v el sZ y R hR
        rw [List.getElem?_map] at el
        obtain ⟨c, ec, rfl⟩ := Option.map_eq_some_iff.mp el
        have hcf := ho.f _ c (List.mem_of_getElem? ec)
        obtain ⟨rfl, rfl⟩ := its_yld ec y
        have eZ := sZ _ _ e1Y
        have ht := toF_mem hg.cl hs hcf
        have eD : deadIn rs left (wd ++ [c]) ↔ NearG rs (Dead rs) (toF rs (runF rs (firstOf rs) wd) c) left := by unfold deadIn; rw [runF_snoc]
        have gd : DGet Z d (.str (S [c])) (some (.str (S (toF rs (runF rs (firstOf rs) wd) c)))) := by
          rw [toF_eq er, ← wK_get r.way hcf]
          exact DGet.k (k := .inr (S [c])) (sZ _ _ e3)
        walk_at "r"
        refine ⟨rfl, ?_⟩
        walk_at "r"
        refine ⟨d, _, rfl, gd, ?_⟩
        walk_at "r"
        refine ⟨p1, _, rfl, DGet.k (k := .inr (S (toF rs (runF rs (firstOf rs) wd) c))) eZ, ?_⟩
        rw [nK_some hF.nd]
        by_cases hin : toF rs (runF rs (firstOf rs) wd) c ∈ F.map (·.1)
        · rw [decide_eq_true hin]
          walk_at "r"
          refine ⟨d, _, rfl, gd, ?_⟩
          walk_at "r"
          obtain ⟨q2, hq2, eq2⟩ := List.mem_map.mp hin
          refine ⟨p1, _, rfl, by rw [← eq2, ← nK_get hF.nd hq2]; exact DGet.k (k := .inr (S q2.1)) eZ, ?_⟩
          walk_at "r"
          refine hR _ _ _ ?_ (fun R' h => by walk_at "r"; exact h) (Same.refl _)
          have h3 := fewest_le hF hq2 left
          rw [eq2] at h3
          rw [Bool.eq_iff_iff, decide_eq_true_eq, @decide_eq_true_iff _ (Classical.propDecidable _), eD, ← h3]
          omega
        · rw [decide_eq_false hin]
          walk_at "r"
          refine hR _ _ _ ?_ (fun R' h => by walk_at "r"; exact h) (Same.refl _)
          rw [eq_comm, @decide_eq_false_iff_not _ (Classical.propDecidable _), eD]
          exact fun z => hin (hF.a _ ht _ z)
      · intro Z sZ eZ
        obtain ⟨c, rr, epk, hdc, hcm⟩ := pick_some (rs := rs) (o := o) (n := left) (w := wd) ho.a hdd
        have epl : ((o (pl wd % 2)).map fun c => [c]).filter (fun l => @decide (deadIn rs left (wd ++ l)) (Classical.propDecidable _)) = (c :: rr).map fun c => [c] := by
          rw [← epk]
          unfold pickC
          rw [List.filter_map]
          rfl
        rw [epl] at eZ
        have e0 : atI (((c :: rr).map fun c => [c]).map fun l => V.str (S l)) 0 = some (V.str (S [c])) := atI_nat (j := 0) rfl
        have hcf := ho.f _ c hcm
        have gd : DGet Z d (.str (S [c])) (some (.str (S (toF rs (runF rs (firstOf rs) wd) c)))) := by
          rw [toF_eq er, ← wK_get r.way hcf]
          exact DGet.k (k := .inr (S [c])) (sZ _ _ e3)
        walk_at "r"
        refine r_ixL (SqL.of eZ) e0 ?_
        refine ⟨d, _, rfl, gd, ?_⟩
        walk_at "r"
        refine r_ixL (SqL.of eZ) e0 ?_
        refine r_addS (by simp; omega) ?_
        walk_at "r"
        refine r_ixL (SqL.of eZ) e0 ?_
        refine ⟨_, c, rfl, hcf, ?_⟩
        walk_at "r"
        refine ⟨_, _, _, rfl, ?_⟩
        have hgr2 : grd rs o left (wd ++ [c]) = grd rs o n [] := by
          rw [← hgr]
          show _ = grd rs o left (wd ++ (pickC rs o left wd).take 1)
          rw [epk]
          rfl
        refine ⟨_, _, _, wd ++ [c], by rw [runF_snoc, pl_snoc]; rfl, Same.trans sX sZ, hw.app (fun z hz => by rw [List.mem_singleton.mp hz]; exact hcf), by simp [hwl], ?_, ?_⟩
        · rw [show n - (i + 1) = left by omega]; exact hdc
        · rw [show n - (i + 1) = left by omega]; exact hgr2
    · rintro σ X ⟨y4, y8, y9, wd, rfl, sX, hw, hwl, hdd, hgr⟩
      walk_at "r"
      rw [Nat.sub_self] at hgr
      have := q _ (Same.trans s1 sX)
      rw [← hgr] at this
      exact this

def sp_many_beginnings (K : PySem.W.Frag) : Sp := fun vs H Q _ => ∃ (x : Addr) (rs : List Tf.Row3) (n : Nat), vs = [.ref x, .int n] ∧ RuleAt (He.ga K "Law") H x rs ∧ LawG rs ∧ n ≤ 200 ∧ ∀ H', Same H H' → Q (.int ((wsum (liveW rs) (cntN rs n) : Nat) : Int)) H'
theorem ok_many_beginnings (T : Txt K mg) : Ok P w K mg base CX0 (4) "many_beginnings" s_many_beginnings ["rule", "rounds"] (sp_many_beginnings K) := by
  obtain ⟨fd, D⟩ := T.d_many_beginnings
  refine ⟨⟨_, fd, T.g_many_beginnings, D, D.bindsN (fun _ _ _ _ _ _ us hl => match us, hl with | [_, _], _ => rfl), ?_⟩⟩
  refine D.ok sc_many_beginnings (fun vs H Q E h => ?_) (fun cdv A outer s H vs Q E hr h => ?_)
  · obtain ⟨x, rs, n, rfl, hx, hg, hn, q1⟩ := h
    rfl
  · obtain ⟨x, rs, n, rfl, hx, hg, hn, q1⟩ := h
    have F_need_number := ok_need_number (P := P) (w := w) (K := K) (mg := mg) (base := base) T
    have F_living := ok_living (P := P) (w := w) (K := K) (mg := mg) (base := base) T
    refine ⟨_, PSs.nox (pss_cons (ps_expr (pe_cl F_need_number hr (by rfl) pass0 (pa_cons (pv 1) (pa_cons (pe_gint (by rfl) T.c_MOST_ROUNDS) pa_nil))))
      (pss_cons (ps_set (i := 2) sc_many_beginnings.nd rfl (by first | exact Or.inl rfl | exact Or.inr rfl) (pe_disp (pps_cons (pe_ix ix_tup (pe_fld (pv 0) rfl) pe_int (fun _ _ => rfl)) pe_int pps_nil) (by rfl) (by rfl) (fun z => by cases z) (by decide)))
      (pss_cons (ps_for PassesOwn.never rfl (pi_range1 (by rfl) T.z_range (pa_cons (pv 1) pa_nil)) (pg_name (i := 3) sc_many_beginnings.nd rfl (by first | exact Or.inl rfl | exact Or.inr rfl))
        (pss_cons (ps_set (i := 5) sc_many_beginnings.nd rfl (by first | exact Or.inl rfl | exact Or.inr rfl) pe_dnewK)
      (pss_cons (ps_lock (ps_for PassesOwn.never rfl (pi_items (pv 2)) (pg_tup rfl (pgs_cons (pg_name (i := 6) sc_many_beginnings.nd rfl (by first | exact Or.inl rfl | exact Or.inr rfl)) (pgs_cons (pg_name (i := 7) sc_many_beginnings.nd rfl (by first | exact Or.inl rfl | exact Or.inr rfl)) pgs_nil)))
        (pss_one (ps_lock (ps_for PassesOwn.never rfl (pi_values (pe_dget (hu_of hr) (pe_fld (pv 0) rfl) (pv 6) (fun _ _ => rfl))) (pg_name (i := 8) sc_many_beginnings.nd rfl (by first | exact Or.inl rfl | exact Or.inr rfl))
        (pss_one (ps_dput (hu_of hr) (pv 5) (pv 8) (pe_op op_add (pe_dget2 (hu_of hr) (pv 5) (pv 8) pe_int ⟨by rfl, by rfl, by rfl, by rfl⟩) (pv 7)) (by rfl))))))))
      (pss_one (ps_set (i := 2) sc_many_beginnings.nd rfl (by first | exact Or.inl rfl | exact Or.inr rfl) (pv 5))))))
      (pss_cons (ps_set (i := 4) sc_many_beginnings.nd rfl (by first | exact Or.inl rfl | exact Or.inr rfl) (pe_cl F_living hr (by rfl) pass0 (pa_cons (pv 0) pa_nil)))
      (pss_one (ps_ret (pe_callB (cr_sum rfl) (by rfl) T.z_sum (by decide +kernel) (pa_cons (pe_lock (pe_lc (own := [("name", 6), ("many", 7)]) (g := gTup K 2 (gCons (gName 6) (gCons (gName 7) gNil))) rfl sc_many_beginnings.nd (pi_items (pv 2)) (blkOk_by (N := ["rule", "rounds", "counts", "_", "alive", "ahead", "name", "many", "goal"]) (sc := defScope s_many_beginnings) (by decide +kernel)) (fun _ _ _ _ _ => (pg_tup rfl (pgs_cons (pg_name (i := 6) sc_many_beginnings.nd rfl (by first | exact Or.inl rfl | exact Or.inr rfl)) (pgs_cons (pg_name (i := 7) sc_many_beginnings.nd rfl (by first | exact Or.inl rfl | exact Or.inr rfl)) pgs_nil)))) (fun _ _ _ _ _ => (pts_one (pt_cmp (pc_din (hu_of hr) (pv 6) (pv 4)) rfl))) (fun _ _ _ _ _ => (pv 7)))) pa_nil)))))))), ?_⟩
    have hln := hg.len
    walk_at "r"
    refine ⟨n, 200, rfl, by omega, by omega, ?_⟩
    walk_at "r"
    intro pc hpc
    obtain ⟨r0, hr0, er0⟩ := first_ix hg.ne
    have s0 := same_new hpc (o := .dK [])
    obtain ⟨dx, fs, nn, x1, x2, x3⟩ := (hx.same s0).names
    show tOp _ _ _ _ _ _
    walk_at "r"
    refine ⟨x, _, dx, fs, _, rfl, x1, T.cl_Law, T.na_Law_names, x2, ?_⟩
    walk_at "r"
    refine r_ixT (SqT.of x3) (atI_nat (j := 0) (v := V.str (S r0.nm)) (by rw [List.getElem?_map, List.getElem?_map, hr0]; rfl)) ?_
    rw [er0]
    walk_at "r"
    refine ⟨upd_same, [(.inr (S (firstOf rs)), .int 1)], rfl, by show (1 : Nat) ≤ 15; decide, ?_⟩
    have sc0 := Same.mut s0 hpc (o := .dK (mergeK [] [((.inr (S (firstOf rs)) : Key), V.int 1)]))
    have ec0 : (upd (upd H pc (.dK [])) pc (.dK (mergeK [] [((.inr (S (firstOf rs)) : Key), V.int 1)]))) pc = some (.dK (nK (cntN rs 0))) := upd_same
    generalize upd (upd H pc (.dK [])) pc (.dK (mergeK [] [((.inr (S (firstOf rs)) : Key), V.int 1)])) = B0 at sc0 ec0 ⊢
    clear x1 x2 x3
    walk_at "r"
    refine ⟨_, rfl, by omega, by omega, for_range (n := n) (fun i σ X => ∃ pc y3 y5 y6 y7 y8, σ = [some (.ref x), some (.int n), some (.ref pc), y3, none, y5, y6, y7, y8] ∧ Same H X ∧ H pc = none ∧ X pc = some (.dK (nK (cntN rs i)))) ⟨pc, _, _, _, _, _, rfl, sc0, hpc, ec0⟩ ?_ ?_⟩
    · rintro i σ X hi ⟨pc, y3, y5, y6, y7, y8, rfl, sX, hpc, eX⟩
      have ci := cntN_ok hg.cl hg.ne i
      walk_at "r"
      intro pa hpa
      have hpaH := same_free sX hpa
      have nca : pc ≠ pa := fun z => by subst z; rw [eX] at hpa; cases hpa
      walk_at "r"
      refine ⟨pc, _, (upd_ne nca).trans eX, by trivial, fun od => ?_⟩
      walk_at "r"
      refine ⟨pc, od, _, rfl, upd_same, for_J (n := (nK (cntN rs i)).length) (fun j σ Y => ∃ y6 y7 y8, σ = [some (.ref x), some (.int n), some (.ref pc), some (.int (0 + (i : Nat))), none, some (.ref pa), y6, y7, y8] ∧ Same H Y ∧ Y pc = some (.frz od (.dK (nK (cntN rs i)))) ∧ Y pa = some (.dK (nK (((cntN rs i).take j).foldl (fun A q => goN rs q A) [])))) ⟨_, _, _, rfl, Same.mut (Same.mut sX hpaH) hpc, upd_same, (upd_ne nca.symm).trans upd_same⟩ (fun j σ Y hj h => by obtain ⟨_, _, _, _, _, h, _⟩ := h; exact ⟨h, hj⟩) (fun σ Y h => by obtain ⟨_, _, _, _, _, h, _⟩ := h; exact ⟨h, Nat.le_refl _⟩) ?_ ?_⟩
      · rintro j v σ Y Y2 hj ⟨y6, y7, y8, rfl, sY, eYc, eYa⟩ ⟨T2, k, vv, ek, rfl, hT, rfl⟩
        obtain ⟨q, eq, rfl, rfl⟩ := nK_at ek
        have hqm := List.mem_of_getElem? eq
        have hq := ci.m _ (List.mem_map.mpr ⟨q, hqm, rfl⟩)
        have cA : CntN rs (((cntN rs i).take j).foldl (fun A q => goN rs q A) []) := CntN.fold hg.cl _ _ CntN.nil fun z hz => ci.m _ (List.mem_map.mpr ⟨z, List.mem_of_mem_take hz, rfl⟩)
        rw [show kV (.inr (S q.1)) = V.str (S q.1) from rfl]
        refine r_gTup (SqT.of upd_same) rfl ?_
        have sT := same_new hT (o := .tup [.str (S q.1), .int (q.2 : Int)])
        have sY2 := Same.trans sY sT
        have eYc2 := sT _ _ eYc
        have eYa2 := sT _ _ eYa
        generalize upd Y T2 (.tup [.str (S q.1), .int (q.2 : Int)]) = Y2 at sT sY2 eYc2 eYa2 ⊢
        obtain ⟨dx, fs, st, x1, x2, kvs, h1, h2⟩ := hx.steps
        obtain ⟨r, er, hr, ers⟩ := rowOf_mem hq
        obtain ⟨d, e1, e2⟩ := ways_get h2 er
        have nx : x ≠ d := fun z => by subst z; rw [x1] at e2; cases e2
        have nst : st ≠ d := (ways_not h2 h1 e2).symm
        have nac : pa ≠ d := fun z => by subst z; rw [e2] at hpaH; cases hpaH
        have ncc : pc ≠ d := fun z => by subst z; rw [e2] at hpc; cases hpc
        walk_at "r"
        refine ⟨d, _, sY2 _ _ e2, by trivial, fun od2 => ?_⟩
        have sL := Same.lock (d := d) (z := .frz od2 (.dK (wK r.way))) sY2
        walk_at "r"
        refine ⟨x, _, dx, fs, _, rfl, sL _ _ ((upd_ne nx).trans x1), T.cl_Law, T.na_Law_steps, x2, ?_⟩
        walk_at "r"
        refine ⟨st, _, rfl, by rw [← e1]; exact DGet.k (k := .inr (S q.1)) (sL _ _ ((upd_ne nst).trans h1)), ?_⟩
        refine ⟨d, od2, _, rfl, upd_same, for_J (n := 3) (fun k σ Z => ∃ y8, σ = [some (.ref x), some (.int n), some (.ref pc), some (.int (0 + (i : Nat))), none, some (.ref pa), some (.str (S q.1)), some (.int (q.2 : Int)), y8] ∧ Same (upd H d (.frz od2 (.dK (wK r.way)))) Z ∧ Z pc = some (.frz od (.dK (nK (cntN rs i)))) ∧ Z pa = some (.dK (nK (goK rs q (((cntN rs i).take j).foldl (fun A q => goN rs q A) []) k)))) ⟨_, rfl, sL, (upd_ne ncc).trans eYc2, (upd_ne nac).trans eYa2⟩ (fun k σ Z hk h => by obtain ⟨_, _, h, _⟩ := h; exact ⟨h _ _ upd_same, hk⟩) (fun σ Z h => by obtain ⟨_, _, h, _⟩ := h; exact ⟨h _ _ upd_same, Nat.le_refl _⟩) ?_ ?_⟩
        · rintro k v σ Z Z' hk ⟨y8, rfl, sZ, eZc, eZa⟩ ⟨rfl, kk, ekk⟩
          obtain ⟨c, ec, rfl⟩ := wK_at ekk
          have cg := cA.goK hg.cl hq k
          have lg := cg.len
          have et : r.way c = toF rs q.1 c := (toF_eq er).symm
          walk_at "r"
          refine ⟨pa, rfl, .inl ⟨_, .inl eZa⟩, ?_⟩
          walk_at "r"
          refine ⟨_, DGet.k (k := .inr (S (r.way c))) eZa, ?_⟩
          rw [nK_getD cg.nd]
          walk_at "r"
          refine ⟨pa, _, rfl, DPut.k (k := .inr (S (r.way c))) eZa (by rw [nK_len]; exact lt_line (by omega)), ?_⟩
          walk_at "r"
          have npd : H pa = none := hpaH
          have npd2 : (upd H d (.frz od2 (.dK (wK r.way)))) pa = none := (upd_ne nac).trans hpaH
          refine ⟨_, rfl, Same.mut sZ npd2, (upd_ne nca).trans eZc, ?_⟩
          rw [upd_same, goK_succ ec, ← nK_bump cg.nd, ← et]
          rfl
        · rintro σ Z ⟨y8, rfl, sZ, eZc, eZa⟩
          refine ⟨sZ _ _ upd_same, ?_⟩
          walk_at "r"
          refine ⟨_, _, _, rfl, Same.unlock e2 sZ, (upd_ne ncc).trans eZc, (upd_ne nac).trans ?_⟩
          rw [eZa, take_snoc' eq, List.foldl_append]
          rfl
      · rintro σ Y ⟨y6, y7, y8, rfl, sY, eYc, eYa⟩
        refine ⟨eYc, ?_⟩
        walk_at "r"
        rw [nK_len, List.take_length] at eYa
        refine ⟨pa, _, _, _, _, _, rfl, Same.mut sY hpc, hpaH, (upd_ne nca.symm).trans ?_⟩
        exact eYa
    · rintro σ X ⟨pc, y3, y5, y6, y7, y8, rfl, sX, hpc, eX⟩
      have cn := cntN_ok hg.cl hg.ne n
      have ln := cn.len
      walk_at "r"
      refine ⟨x, rs, rfl, hx.same sX, hg, fun H1 p1 F1 s1 e1 f1 hF1 => ?_⟩
      walk_at "r"
      have eX1 := s1 _ _ eX
      have s01 := Same.trans sX s1
      refine ⟨pc, _, eX1, by trivial, fun od => ?_⟩
      walk_at "r"
      have n1 : p1 ≠ pc := fun z => by
        subst z
        rw [eX] at f1
        cases f1
      refine ⟨pc, od, _, rfl, upd_same, fun D hD => lc_filt (J := Iti pc od (nK (cntN rs n))) (ls := cntN rs n) (fun q => V.int (q.2 : Int)) (fun q => !deadB rs q.1) hD (by omega) (fun j Z hj sZ => ⟨sZ _ _ upd_same, by rw [nK_len]; exact hj⟩) (fun Z sZ => ⟨sZ _ _ upd_same, by rw [nK_len]; exact Nat.le_refl _⟩) ?_ ?_⟩
      · rintro j q Z' Z v eq sZ ⟨T2, k, vv, ek, rfl, hT, rfl⟩ R hR
        obtain ⟨q', eq', rfl, rfl⟩ := nK_at ek
        obtain rfl : q' = q := Option.some.inj (eq'.symm.trans eq)
        have hq := cn.m _ (List.mem_map.mpr ⟨q', List.mem_of_getElem? eq, rfl⟩)
        rw [show kV (.inr (S q'.1)) = V.str (S q'.1) from rfl]
        refine r_gTup (SqT.of upd_same) rfl ?_
        walk_at "r"
        refine ⟨rfl, ?_⟩
        walk_at "r"
        have sT := same_new hT (o := .tup [.str (S q'.1), .int (q'.2 : Int)])
        refine ⟨p1, _, rfl, DGet.k (k := .inr (S q'.1)) (sT _ _ (sZ _ _ ((upd_ne n1).trans e1))), ?_⟩
        rw [nK_some hF1.nd]
        have hb := dead_few hF1 hq
        walk_at "r"
        exact hR _ _ _ (by rw [← hb, Bool.not_not]) (fun R' h => by walk_at "r"; exact h) sT
      · intro Z sZ eZ
        refine ⟨sZ _ _ upd_same, ?_⟩
        walk_at "r"
        have nD : D ≠ pc := fresh_ne hD upd_same
        refine r_sum (a := D) (SqL.of ((upd_ne nD).trans (by rw [eZ, List.map_map]; rfl))) ?_
        rw [live_sum]
        exact q1 _ (Same.trans s01 (Same.unlock eX1 sZ))
def sp_barred_places (K : PySem.W.Frag) : Sp := fun vs H Q _ => ∃ (x : Addr) (rs : List Tf.Row3) (n : Nat), vs = [.ref x, .int n] ∧ RuleAt (He.ga K "Law") H x rs ∧ LawG rs ∧ n ≤ 6 ∧ ∀ H' t, Same H H' → H' t = some (.tup (((List.range (3 ^ n)).filter fun i => deadB rs (runF rs (firstOf rs) (wdn n (i : Nat)))).map fun (i : Nat) => V.int (i : Int))) → Q (.ref t) H'
theorem ok_barred_places (T : Txt K mg) : Ok P w K mg base CX0 (4) "barred_places" s_barred_places ["rule", "rounds"] (sp_barred_places K) := by
  obtain ⟨fd, D⟩ := T.d_barred_places
  refine ⟨⟨_, fd, T.g_barred_places, D, D.bindsN (fun _ _ _ _ _ _ us hl => match us, hl with | [_, _], _ => rfl), ?_⟩⟩
  refine D.ok sc_barred_places (fun vs H Q E h => ?_) (fun cdv A outer s H vs Q E hr h => ?_)
  · obtain ⟨x, rs, n, rfl, hx, hg, n6, q1⟩ := h
    rfl
  · obtain ⟨x, rs, n, rfl, hx, hg, n6, q1⟩ := h
    have F_whole_row := ok_whole_row (P := P) (w := w) (K := K) (mg := mg) (base := base) T
    have F_living := ok_living (P := P) (w := w) (K := K) (mg := mg) (base := base) T
    have F_state_behind := ok_state_behind (P := P) (w := w) (K := K) (mg := mg) (base := base) T
    refine ⟨_, PSs.nox (pss_cons (ps_set (i := 2) sc_barred_places.nd rfl (by first | exact Or.inl rfl | exact Or.inr rfl) (pe_cl F_whole_row hr (by rfl) pass0 (pa_cons (pv 1) pa_nil)))
      (pss_cons (ps_set (i := 3) sc_barred_places.nd rfl (by first | exact Or.inl rfl | exact Or.inr rfl) (pe_cl F_living hr (by rfl) pass0 (pa_cons (pv 0) pa_nil)))
      (pss_cons (ps_set (i := 4) sc_barred_places.nd rfl (by first | exact Or.inl rfl | exact Or.inr rfl) (pe_ix ix_tup (pe_fld (pv 0) rfl) pe_int (fun _ _ => rfl)))
      (pss_one (ps_ret (pe_tupleOf (by rfl) T.z_tuple (pe_lc (own := [("at", 5), ("word", 6)]) (g := gTup K 2 (gCons (gName 5) (gCons (gName 6) gNil))) rfl sc_barred_places.nd (pi_enumU (by rfl) T.z_enumerate (pa_cons (pv 2) pa_nil)) (blkOk_by (N := ["rule", "rounds", "row", "alive", "start", "at", "word"]) (sc := defScope s_barred_places) (by decide +kernel)) (fun _ _ _ _ _ => (pg_tup rfl (pgs_cons (pg_name (i := 5) sc_barred_places.nd rfl (by first | exact Or.inl rfl | exact Or.inr rfl)) (pgs_cons (pg_name (i := 6) sc_barred_places.nd rfl (by first | exact Or.inl rfl | exact Or.inr rfl)) pgs_nil)))) (fun _ _ _ _ _ => (pts_one (pt_cmp (pc_dnotin (hu_of hr) (pe_cl F_state_behind hr (by rfl) pass0 (pa_cons (pv 0) (pa_cons (pv 4) (pa_cons (pv 6) pa_nil)))) (pv 3)) rfl))) (fun _ _ _ _ _ => (pv 5))))))))), ?_⟩
    walk_at "r"
    refine ⟨n, rfl, n6, fun H1 t s1 ht => ?_⟩
    walk_at "r"
    refine ⟨x, rs, rfl, hx.same s1, hg, fun H2 p2 F2 s2 e2 _ hF2 => ?_⟩
    walk_at "r"
    have s12 := Same.trans s1 s2
    obtain ⟨dx, fs, nn, x1, x2, x3⟩ := (hx.same s12).names
    refine ⟨x, _, dx, fs, _, rfl, x1, T.cl_Law, T.na_Law_names, x2, ?_⟩
    walk_at "r"
    obtain ⟨r0, hr0, er0⟩ := first_ix hg.ne
    refine r_ixT (SqT.of x3) (atI_nat (j := 0) (v := V.str (S r0.nm)) (by rw [List.getElem?_map, List.getElem?_map, hr0]; rfl)) ?_
    rw [er0]
    walk_at "r"
    have ht2 := s2 _ _ ht
    have h3 : (3 : Nat) ^ n ≤ 3 ^ 6 := Nat.pow_le_pow_right (by decide) n6
    have h6 : (3 : Nat) ^ 6 = 729 := by decide
    obtain ⟨go, st⟩ := enumU_go (SqT.of (K := K) ht2) (n := (List.range (3 ^ n)).length) (by simp [rowW])
    refine ⟨t, _, rfl, SqT.of ht2, fun D hD => lc_filt (J := ItEU K t) (ls := List.range (3 ^ n)) (fun (i : Nat) => V.int (i : Int)) (fun i => deadB rs (runF rs (firstOf rs) (wdn n (i : Nat)))) hD (by simp; omega) go st ?_ ?_⟩
    · rintro i l Y' Y v el sY ⟨T2, x0, rfl, hT2, rfl, fy⟩ R hR
      have hi : i < 3 ^ n := by have := (List.getElem?_eq_some_iff.mp el).1; simpa using this
      rw [List.getElem?_range hi] at el
      obtain rfl : i = l := Option.some.inj el
      have ev := fy _ (SqT.of (sY _ _ ht2))
      rw [List.getElem?_map, rowW_at hi] at ev
      obtain rfl : V.str (S (wdn n i)) = x0 := Option.some.inj ev
      have sT := same_new hT2 (o := .tup [.int (i : Nat), .str (S (wdn n i))])
      refine r_gTup (SqT.of upd_same) rfl ?_
      walk_at "r"
      refine ⟨rfl, ?_⟩
      walk_at "r"
      have sYT := Same.trans sY sT
      have hw := wdn_wd n (i : Int)
      refine ⟨x, rs, firstOf rs, wdn n i, rfl, (hx.same s12).same sYT, hg.cl, first_mem hg.ne, hw, fun Z sZ => ?_⟩
      walk_at "r"
      refine ⟨p2, _, rfl, DGet.k (k := .inr (S (runF rs (firstOf rs) (wdn n i)))) (sZ _ _ (sYT _ _ e2)), ?_⟩
      rw [nK_some hF2.nd, dead_few hF2 (runF_mem hg.cl hw (first_mem hg.ne))]
      walk_at "r"
      exact hR _ _ _ rfl (fun R' h => by walk_at "r"; exact h) (Same.trans sT sZ)
    · intro Y sY eY
      walk_at "r"
      refine .inl ⟨D, _, rfl, SqL.of eY, fun u hu => ?_⟩
      exact q1 _ u (Same.trans s12 (Same.trans sY (same_new hu))) upd_same

def fnsO : Int → List Nat := fun _ => [102, 110, 115]
theorem fnsO_ok : SeqO fnsO where
  f := fun i c hc => by
    unfold fnsO at hc
    unfold Fa
    simp only [List.mem_cons, List.not_mem_nil, or_false] at hc
    omega
  a := fun i c hc => by
    unfold fnsO
    unfold Fa at hc
    simp only [List.mem_cons, List.not_mem_nil, or_false]
    omega
  l := fun i => by unfold fnsO; decide
def sp_first_barredL (K : PySem.W.Frag) : Sp := fun vs H Q _ => ∃ (x p dd : Addr) (rs : List Tf.Row3) (n : Nat) (o : Int → List Nat), vs = [.ref x, .int n, .ref p] ∧ RuleAt (He.ga K "Law") H x rs ∧ LawG rs ∧ n ≤ 200 ∧ SqT K H p [.ref dd, .ref dd] ∧ (∀ i, H dd = some (.lst ((o i).map fun c => V.str (S [c])))) ∧ SeqO o ∧ deadIn rs n [] ∧ ∀ H', Same H H' → Q (.str (S (grd rs o n []))) H'
theorem ok_first_barredL (T : Txt K mg) : Ok P w K mg base CX0 (5) "first_barred" s_first_barred ["rule", "rounds", "sequences"] (sp_first_barredL K) := by
  obtain ⟨fd, D⟩ := T.d_first_barred
  refine ⟨⟨_, fd, T.g_first_barred, D, D.bindsN (fun _ _ _ _ _ _ us hl => match us, hl with | [_, _, _], _ => rfl), ?_⟩⟩
  refine D.ok sc_first_barred (fun vs H Q E h => ?_) (fun cdv A outer s H vs Q E hr h => ?_)
  · obtain ⟨x, p, dd, rs, n, o, rfl, hx, hg, hn, hp, hdd0, ho, hd, q⟩ := h
    rfl
  · obtain ⟨x, p, dd, rs, n, o, rfl, hx, hg, hn, hp, hdd0, ho, hd, q⟩ := h
    have F_fates_to_break := ok_fates_to_break (P := P) (w := w) (K := K) (mg := mg) (base := base) T
    have F_place_behind := ok_place_behind (P := P) (w := w) (K := K) (mg := mg) (base := base) T
    refine ⟨_, PSs.nox (pss_cons (ps_set (i := 3) sc_first_barred.nd rfl (by first | exact Or.inl rfl | exact Or.inr rfl) (pe_cl F_fates_to_break hr (by rfl) pass0 (pa_cons (pv 0) pa_nil)))
      (pss_cons (ps_par3 (i := 5) (j := 6) (l := 7) (by rfl) sc_first_barred.nd rfl rfl rfl (by decide) (by decide) (by decide) rfl rfl rfl (pa_cons (pe_ix ix_tup (pe_fld (pv 0) rfl) pe_int (fun _ _ => rfl)) (pa_cons (pe_strS [] (by rfl)) (pa_cons pe_int pa_nil))) (by rfl))
      (pss_cons (ps_for PassesOwn.never rfl (pi_revR (by rfl) T.z_reversed (prg_1 (by rfl) T.z_range (pv 1))) (pg_name (i := 4) sc_first_barred.nd rfl (by first | exact Or.inl rfl | exact Or.inr rfl))
        (pss_cons (ps_set (i := 8) sc_first_barred.nd rfl (by first | exact Or.inl rfl | exact Or.inr rfl) (pe_dget (hu_of hr) (pe_fld (pv 0) rfl) (pv 5) (fun _ _ => rfl)))
      (pss_cons (ps_setLc (i := 9) (own := [("fate", 10)]) (g := gName 10) rfl sc_first_barred.nd rfl rfl (sw_true rfl rfl rfl rfl) (pi_list (pe_ix ix_tup (pv 2) (pe_op op_mod (pv 7) pe_int) (fun _ _ => rfl))) (blkOk_by (N := ["rule", "rounds", "sequences", "fewest", "left", "state", "word", "at", "goals", "fates", "fate"]) (sc := defScope s_first_barred) (by decide +kernel)) (fun _ _ _ _ _ => (pg_name (i := 10) sc_first_barred.nd rfl (by first | exact Or.inl rfl | exact Or.inr rfl))) (fun _ _ _ _ _ => (pts_one (PW.pt (pw_and (pt_cmp (pc_din (hu_of hr) (pe_dget (by exact hu_of hr) (pv 8) (pv 10) (fun _ _ => rfl)) (pv 3)) rfl) (pw_and1 (pt_cmpR op_le (pe_dget (by exact hu_of hr) (pv 3) (pe_dget (by exact hu_of hr) (pv 8) (pv 10) (fun _ _ => rfl)) (fun _ _ => rfl)) (pv 4) (nomark _))))))) (fun _ _ _ _ _ => (pv 10)))
      (pss_one (ps_par3 (i := 5) (j := 6) (l := 7) (by rfl) sc_first_barred.nd rfl rfl rfl (by decide) (by decide) (by decide) rfl rfl rfl (pa_cons (pe_dget (hu_of hr) (pv 8) (pe_ix ix_list (pv 9) pe_int (fun _ _ => rfl)) (fun _ _ => rfl)) (pa_cons (pe_op o_addS (pv 6) (pe_ix ix_list (pv 9) pe_int (fun _ _ => rfl))) (pa_cons (pe_cl F_place_behind hr (by rfl) pass0 (pa_cons (pv 7) (pa_cons (pe_ix ix_list (pv 9) pe_int (fun _ _ => rfl)) pa_nil))) pa_nil))) (by rfl))))))
      (pss_one (ps_ret (pv 6)))))), ?_⟩
    have hln := hg.len
    walk_at "r"
    refine ⟨x, rs, rfl, hx, hg, fun H1 p1 F s1 e1 _ hF => ?_⟩
    walk_at "r"
    obtain ⟨dx, fs, nn, x1, x2, x3⟩ := (hx.same s1).names
    refine ⟨x, _, dx, fs, _, rfl, x1, T.cl_Law, T.na_Law_names, x2, ?_⟩
    walk_at "r"
    obtain ⟨r0, hr0, er0⟩ := first_ix hg.ne
    refine r_ixT (SqT.of x3) (atI_nat (j := 0) (v := V.str (S r0.nm)) (by rw [List.getElem?_map, List.getElem?_map, hr0]; rfl)) ?_
    rw [er0]
    walk_at "r"
    refine ⟨_, _, _, rfl, ?_⟩
    walk_at "r"
    refine ⟨by omega, by omega, by omega, by omega, ?_⟩
    rw [show ((n : Int) - 0).toNat = n by omega]
    refine for_J (n := n) (fun i σ X => ∃ y4 y8 y9 wd, σ = [some (.ref x), some (.int n), some (.ref p), some (.ref p1), y4, some (.str (S (runF rs (firstOf rs) wd))), some (.str (S wd)), some (.int (pl wd)), y8, y9, none] ∧ Same H1 X ∧ Wd wd ∧ wd.length = i ∧ deadIn rs (n - i) wd ∧ grd rs o (n - i) wd = grd rs o n []) ⟨_, _, _, [], rfl, Same.refl _, (fun _ h => nomatch h), rfl, hd, rfl⟩ (fun i σ X hi _ => hi) (fun σ X _ => Nat.le_refl _) ?_ ?_
    · rintro i v σ X Y hi ⟨y4, y8, y9, wd, rfl, sX, hw, hwl, hdd, hgr⟩ ⟨rfl, rfl⟩
      with_reducible refine Tf.r_name ?_
      obtain ⟨left, hleft⟩ : ∃ left, n - i = left + 1 := ⟨n - i - 1, by omega⟩
      rw [hleft] at hdd hgr
      rw [show (0 + ((n : Nat) : Int) - 1 + ((i : Nat) : Int) * -1) = (left : Int) by omega]
      have hs := runF_mem hg.cl hw (first_mem hg.ne)
      obtain ⟨r, er, hr, ers⟩ := rowOf_mem hs
      obtain ⟨dx, fs, st, x1, x2, kvs, h1, h2⟩ := ((hx.same s1).same sX).steps
      obtain ⟨d, e2, e3⟩ := ways_get h2 er
      walk_at "r"
      refine ⟨x, _, dx, fs, _, rfl, x1, T.cl_Law, T.na_Law_steps, x2, ?_⟩
      walk_at "r"
      refine ⟨st, _, rfl, by rw [← e2]; exact DGet.k (k := .inr (S (runF rs (firstOf rs) wd))) h1, ?_⟩
      walk_at "r"
      refine r_I (by show (0 : Int) < 2; decide) ?_
      have hpm : pl wd % 2 = 0 ∨ pl wd % 2 = 1 := by omega
      refine r_ixT (Same.sqt (Same.trans s1 sX) hp) (v := .ref dd) (by rcases hpm with h | h <;> rw [h] <;> rfl) ?_
      have eDD := (Same.trans s1 sX) _ _ (hdd0 (pl wd % 2))
      obtain ⟨go, stp⟩ := itl_go (SqL.of (K := K) eDD) (n := ((o (pl wd % 2)).map fun c => [c]).length) (by simp)
      have hol := ho.l (pl wd % 2)
      have e1Y := sX _ _ e1
      refine ⟨dd, rfl, ⟨_, SqL.of eDD⟩, fun D hD => lc_filt (J := Itl K dd) (ls := (o (pl wd % 2)).map fun c => [c]) (fun l => V.str (S l)) (fun l => @decide (deadIn rs left (wd ++ l)) (Classical.propDecidable _)) hD (by rw [List.length_map]; omega) go stp ?_ ?_⟩
      · rintro j l Z' Z v el sZ ⟨rfl, fy⟩ R hR
        rw [List.getElem?_map] at el
        obtain ⟨c, ec, rfl⟩ := Option.map_eq_some_iff.mp el
        have hcf := ho.f _ c (List.mem_of_getElem? ec)
        have ev := fy _ (SqL.of (sZ _ _ eDD))
        rw [List.getElem?_map, ec] at ev
        obtain rfl : V.str (S [c]) = v := Option.some.inj ev
        have eZ := sZ _ _ e1Y
        have ht := toF_mem hg.cl hs hcf
        have eD : deadIn rs left (wd ++ [c]) ↔ NearG rs (Dead rs) (toF rs (runF rs (firstOf rs) wd) c) left := by unfold deadIn; rw [runF_snoc]
        have gd : DGet Z d (.str (S [c])) (some (.str (S (toF rs (runF rs (firstOf rs) wd) c)))) := by
          rw [toF_eq er, ← wK_get r.way hcf]
          exact DGet.k (k := .inr (S [c])) (sZ _ _ e3)
        walk_at "r"
        refine ⟨rfl, ?_⟩
        walk_at "r"
        refine ⟨d, _, rfl, gd, ?_⟩
        walk_at "r"
        refine ⟨p1, _, rfl, DGet.k (k := .inr (S (toF rs (runF rs (firstOf rs) wd) c))) eZ, ?_⟩
        rw [nK_some hF.nd]
        by_cases hin : toF rs (runF rs (firstOf rs) wd) c ∈ F.map (·.1)
        · rw [decide_eq_true hin]
          walk_at "r"
          refine ⟨d, _, rfl, gd, ?_⟩
          walk_at "r"
          obtain ⟨q2, hq2, eq2⟩ := List.mem_map.mp hin
          refine ⟨p1, _, rfl, by rw [← eq2, ← nK_get hF.nd hq2]; exact DGet.k (k := .inr (S q2.1)) eZ, ?_⟩
          walk_at "r"
          refine hR _ _ _ ?_ (fun R' h => by walk_at "r"; exact h) (Same.refl _)
          have h3 := fewest_le hF hq2 left
          rw [eq2] at h3
          rw [Bool.eq_iff_iff, decide_eq_true_eq, @decide_eq_true_iff _ (Classical.propDecidable _), eD, ← h3]
          omega
        · rw [decide_eq_false hin]
          walk_at "r"
          refine hR _ _ _ ?_ (fun R' h => by walk_at "r"; exact h) (Same.refl _)
          rw [eq_comm, @decide_eq_false_iff_not _ (Classical.propDecidable _), eD]
          exact fun z => hin (hF.a _ ht _ z)
      · intro Z sZ eZ
        obtain ⟨c, rr, epk, hdc, hcm⟩ := pick_some (rs := rs) (o := o) (n := left) (w := wd) ho.a hdd
        have epl : ((o (pl wd % 2)).map fun c => [c]).filter (fun l => @decide (deadIn rs left (wd ++ l)) (Classical.propDecidable _)) = (c :: rr).map fun c => [c] := by
          rw [← epk]
          unfold pickC
          rw [List.filter_map]
          rfl
        rw [epl] at eZ
        have e0 : atI (((c :: rr).map fun c => [c]).map fun l => V.str (S l)) 0 = some (V.str (S [c])) := atI_nat (j := 0) rfl
        have hcf := ho.f _ c hcm
        have gd : DGet Z d (.str (S [c])) (some (.str (S (toF rs (runF rs (firstOf rs) wd) c)))) := by
          rw [toF_eq er, ← wK_get r.way hcf]
          exact DGet.k (k := .inr (S [c])) (sZ _ _ e3)
        walk_at "r"
        refine r_ixL (SqL.of eZ) e0 ?_
        refine ⟨d, _, rfl, gd, ?_⟩
        walk_at "r"
        refine r_ixL (SqL.of eZ) e0 ?_
        refine r_addS (by simp; omega) ?_
        walk_at "r"
        refine r_ixL (SqL.of eZ) e0 ?_
        refine ⟨_, c, rfl, hcf, ?_⟩
        walk_at "r"
        refine ⟨_, _, _, rfl, ?_⟩
        have hgr2 : grd rs o left (wd ++ [c]) = grd rs o n [] := by
          rw [← hgr]
          show _ = grd rs o left (wd ++ (pickC rs o left wd).take 1)
          rw [epk]
          rfl
        refine ⟨_, _, _, wd ++ [c], by rw [runF_snoc, pl_snoc]; rfl, Same.trans sX sZ, hw.app (fun z hz => by rw [List.mem_singleton.mp hz]; exact hcf), by simp [hwl], ?_, ?_⟩
        · rw [show n - (i + 1) = left by omega]; exact hdc
        · rw [show n - (i + 1) = left by omega]; exact hgr2
    · rintro σ X ⟨y4, y8, y9, wd, rfl, sX, hw, hwl, hdd, hgr⟩
      walk_at "r"
      rw [Nat.sub_self] at hgr
      have := q _ (Same.trans s1 sX)
      rw [← hgr] at this
      exact this
def sp_barred_beginning (K : PySem.W.Frag) : Sp := fun vs H Q _ => ∃ (x : Addr) (rs : List Tf.Row3), vs = [.ref x] ∧ RuleAt (He.ga K "Law") H x rs ∧ LawG rs ∧ ∀ H' o, Same H H' → LeastW rs o → Q (wordV o) H'
theorem ok_barred_beginning (T : Txt K mg) : Ok P w K mg base CX0 (6) "barred_beginning" s_barred_beginning ["rule"] (sp_barred_beginning K) := by
  obtain ⟨fd, D⟩ := T.d_barred_beginning
  refine ⟨⟨_, fd, T.g_barred_beginning, D, D.bindsN (fun _ _ _ _ _ _ us hl => match us, hl with | [_], _ => rfl), ?_⟩⟩
  refine D.ok sc_barred_beginning (fun vs H Q E h => ?_) (fun cdv A outer s H vs Q E hr h => ?_)
  · obtain ⟨x, rs, rfl, hx, hg, q⟩ := h
    rfl
  · obtain ⟨x, rs, rfl, hx, hg, q⟩ := h
    have F_least_rounds := ok_least_rounds (P := P) (w := w) (K := K) (mg := mg) (base := base) T
    have F_first_barred := ok_first_barredL (P := P) (w := w) (K := K) (mg := mg) (base := base) T
    refine ⟨_, PSs.nox (pss_cons (ps_set (i := 1) sc_barred_beginning.nd rfl (by first | exact Or.inl rfl | exact Or.inr rfl) (pe_cl F_least_rounds hr (by rfl) pass0 (pa_cons (pv 0) pa_nil)))
      (pss_cons (ps_if (pt_cmpR o_isN (pv 1) pe_non (nomark _))
        (pss_one (ps_ret pe_non))
        pss_nil)
      (pss_cons (ps_set (i := 2) sc_barred_beginning.nd rfl (by first | exact Or.inl rfl | exact Or.inr rfl) (pe_callB (cr_sortTxt rfl) (by rfl) T.z_sorted (by decide +kernel) (pa_cons (pe_gstrS [110, 102, 115] (by rfl) (by rfl) T.c_FATES) pa_nil)))
      (pss_one (ps_ret (pe_cl F_first_barred hr (by rfl) pass0 (pa_cons (pv 0) (pa_cons (pv 1) (pa_cons (pe_tup (pa_cons (pv 2) (pa_cons (pv 2) pa_nil))) pa_nil))))))))), ?_⟩
    walk_at "r"
    refine ⟨x, rs, rfl, hx, hg, fun H1 o s1 ho => ?_⟩
    walk_at "r"
    cases o with
    | none =>
      rw [show decide (natV none = .non) = true from rfl]
      walk_at "r"
      exact q _ none s1 ⟨fun _ n _ => Classical.byContradiction fun h => ho.n rfl n (barF_ne.mp h), fun w z => by cases z⟩
    | some n =>
      rw [decide_eq_false (show ¬ natV (some n) = .non from fun z => by cases z)]
      obtain ⟨h1, h2, h3⟩ := ho.s n rfl
      have hln := hg.len
      walk_at "r"
      refine ⟨[110, 102, 115], rfl, by decide, fun ys p hy hs hp => ?_⟩
      have e := sort_nfs hy hs
      subst e
      have sp := same_new hp (o := .lst (((([102, 110, 115] : List Nat).map fun c => S [c])).map V.str))
      have ep : (upd H1 p (.lst (((([102, 110, 115] : List Nat).map fun c => S [c])).map V.str))) p = some (.lst (([102, 110, 115] : List Nat).map fun c => V.str (S [c]))) := by rw [upd_same, List.map_map]; rfl
      generalize upd H1 p (.lst (((([102, 110, 115] : List Nat).map fun c => S [c])).map V.str)) = H2 at sp ep ⊢
      walk_at "r"
      refine ⟨by show 2 ≤ sizeLine; decide, fun t ht => ?_⟩
      have st := same_new ht (o := .tup [.ref p, .ref p])
      have sA := Same.trans (Same.trans s1 sp) st
      have hdd : deadIn rs n [] := h1
      walk_at "r"
      refine ⟨x, t, p, rs, n, fnsO, rfl, hx.same sA, hg, by omega, SqT.of upd_same, fun i => st _ _ ep, fnsO_ok, hdd, fun H3 s3 => ?_⟩
      obtain ⟨r, hr⟩ := first_bar (o := fnsO) (fun _ => rfl) hdd
      obtain ⟨w1, w2⟩ := grd_wd fnsO_ok hdd (fun _ h => nomatch h)
      have hl : (grd rs fnsO n []).length = n := by rw [w2]; simp
      exact q _ (some (grd rs fnsO n [])) (Same.trans sA s3) ⟨(fun z => by cases z), (fun w hw => by
        cases hw
        rw [hl]
        exact ⟨⟨r, hr⟩, fun m hm => Classical.byContradiction fun h => h2 m hm (barF_ne.mp h), h3⟩)⟩

def sp_Llaw_drawnD (K : PySem.W.Frag) : Sp := fun vs H Q _ => ∃ (a : Addr) (c : Int) (m : Nat), vs = [.ref a, .int m] ∧ 1 ≤ m ∧ m ≤ 6 ∧ PotAt H a c ∧ c ≤ 800000 ∧ ∀ H' p rs, But a H H' → PotAt H' a (c + 30) → OwnD H H' p rs → Law3 rs → rs.length ≤ m → Q (.ref p) H'
theorem ok_Llaw_drawnD (T : Txt K mg) : Ok P w K mg base CX0 (3) "_law_law_drawn" s_Llaw_drawn ["pot", "most"] (sp_Llaw_drawnD K) := by
  obtain ⟨fd, D⟩ := T.d_Llaw_drawn
  refine ⟨⟨_, fd, T.g__law_law_drawn, D, D.bindsN (fun _ _ _ _ _ _ us hl => match us, hl with | [_, _], _ => rfl), ?_⟩⟩
  refine D.ok sc_Llaw_drawn (fun vs H Q E h => ?_) (fun cdv A outer s H vs Q E hr h => ?_)
  · obtain ⟨a, c, m, rfl, m1, m6, hP, hc, q⟩ := h
    rfl
  · obtain ⟨a, c, m, rfl, m1, m6, hP, hc, q⟩ := h
    have F_Ltake := ok_Ltake (P := P) (w := w) (K := K) (mg := mg) (base := base) T
    have F_Lof := ok_Lof (P := P) (w := w) (K := K) (mg := mg) (base := base) T
    refine ⟨_, PSs.nox (pss_cons (ps_set (i := 2) sc_Llaw_drawn.nd rfl (by first | exact Or.inl rfl | exact Or.inr rfl) (pe_slice sl_list (pe_lst (pa_cons (pe_strS [97] (by rfl)) (pa_cons (pe_strS [98] (by rfl)) (pa_cons (pe_strS [99] (by rfl)) (pa_cons (pe_strS [100] (by rfl)) (pa_cons (pe_strS [101] (by rfl)) (pa_cons (pe_strS [102] (by rfl)) pa_nil))))))) po_none (po_some (pe_op op_add pe_int (pe_cl F_Ltake hr (by rfl) pass0 (pa_cons (pv 0) (pa_cons (pv 1) pa_nil)))))))
      (pss_cons (ps_set (i := 3) sc_Llaw_drawn.nd rfl (by first | exact Or.inl rfl | exact Or.inr rfl) (pe_lst pa_nil))
      (pss_cons (ps_for PassesOwn.never rfl (pi_list (pv 2)) (pg_name (i := 4) sc_Llaw_drawn.nd rfl (by first | exact Or.inl rfl | exact Or.inr rfl))
        (pss_cons (ps_set (i := 5) sc_Llaw_drawn.nd rfl (by first | exact Or.inl rfl | exact Or.inr rfl) (pe_callTy (call_dictP rfl) (by rfl) T.z_dict (by decide +kernel) (pa_cons (pe_lc (own := [("letter", 6)]) (g := gName 6) (tt := tYes) rfl sc_Llaw_drawn.nd (pi_str (pe_strS [110, 102, 115] (by rfl))) (blkOk_by (N := ["pot", "most", "names", "found", "name", "ways", "letter"]) (sc := defScope s_Llaw_drawn) (by decide +kernel)) (fun _ _ _ _ _ => (pg_name (i := 6) sc_Llaw_drawn.nd rfl (by first | exact Or.inl rfl | exact Or.inr rfl))) (fun _ _ _ _ _ => pts_nil) (fun _ _ _ _ _ => (pe_tup (pa_cons (pv 6) (pa_cons (pe_cl F_Lof hr (by rfl) pass0 (pa_cons (pv 0) (pa_cons (pv 2) pa_nil))) pa_nil))))) pa_nil)))
      (pss_one (ps_expr (pe_bm PySem.F.plainAttrs_list PySem.F.slot_list_append PySem.F.type_list_append mt_append (pv 3) (pa_cons (pe_tup (pa_cons (pv 4) (pa_cons (pe_cmpR op_eq (pe_cl F_Ltake hr (by rfl) pass0 (pa_cons (pv 0) (pa_cons pe_int pa_nil))) pe_int (nomark _)) (pa_cons (pv 5) pa_nil)))) pa_nil))))))
      (pss_one (ps_ret (pv 3)))))), ?_⟩
    walk_at "r"
    refine ⟨by show 6 ≤ sizeLine; decide, fun p hp => ?_⟩
    walk_at "r"
    have s1 := same_new hp (o := .lst [.str (S [97]), .str (S [98]), .str (S [99]), .str (S [100]), .str (S [101]), .str (S [102])])
    refine ⟨a, m, c, rfl, hP.same s1, by omega, by omega, by omega, fun H1 d b1 P1 d0 d6 => ?_⟩
    walk_at "r"
    obtain ⟨n, hn, n1, n6, ecut⟩ := nmL_cut d0 (by omega)
    have hp1 : H1 p = some _ := b1 p _ (hP.fresh hp) upd_same
    refine ⟨p, _, rfl, SqL.of hp1, fun p2 hp2 => ?_⟩
    rw [ecut]
    walk_at "r"
    refine ⟨Nat.zero_le _, fun F hF => ?_⟩
    walk_at "r"
    have fa : F ≠ a := (P1.new hp2).fresh hF
    have p2a : p2 ≠ a := P1.fresh hp2
    have F2 : F ≠ p2 := fun z => by subst z; rw [upd_same] at hF; cases hF
    have hF1 : H1 F = none := by rw [upd_ne F2] at hF; exact hF
    have hFH : H F = none := But.free (But.of s1) fa (b1.free fa hF1)
    have p2H : H p2 = none := But.free (But.of s1) p2a (b1.free p2a hp2)
    have B0 := (((But.of s1).trans b1).mut p2H (o := .lst ((nmL n).map fun l => V.str (S l)))).mut hFH (o := .lst [])
    have P2 := (P1.new hp2 (o := .lst ((nmL n).map fun l => V.str (S l)))).new hF (o := .lst [])
    have e2 : (upd (upd H1 p2 (.lst ((nmL n).map fun l => V.str (S l)))) F (.lst [])) p2 = some (.lst ((nmL n).map fun l => V.str (S l))) := by rw [upd_ne F2.symm]; exact upd_same
    have hln := nmL_len n6
    refine ⟨p2, rfl, ⟨_, SqL.of e2⟩, for_list (K := K) (a := p2) (xs := (nmL n).map fun l => V.str (S l)) (fun i σ H' => ∃ y z ts rs, σ = [some (.ref a), some (.int m), some (.ref p2), some (.ref F), y, z, none] ∧ PotAt H' a (c + 1 + 4 * i) ∧ Mk3D a p2 F ((nmL n).map fun l => V.str (S l)) rs ts H H' ∧ rs.map (·.nm) = (nmL n).take i ∧ ∀ r ∈ rs, ∀ c, (c = 110 ∨ c = 102 ∨ c = 115) → r.way c ∈ nmL n) ⟨_, _, [], [], rfl, P2.mono (by omega), ⟨⟨B0, e2, upd_same, .nil⟩, [], List.nodup_nil, .nil, fun _ h => nomatch h⟩, rfl, fun r h => nomatch h⟩ (fun i σ H' _ h => by obtain ⟨_, _, _, _, _, _, m, _⟩ := h; exact SqL.of m.l) ?_ ?_⟩
    · rintro i x σ H' ex ⟨y, z, ts, rs, rfl, Pt, M, hnm, hw⟩
      rw [List.getElem?_map] at ex
      obtain ⟨l, el, rfl⟩ := Option.map_eq_some_iff.mp ex
      have hi : i < n := by have := (List.getElem?_eq_some_iff.mp el).1; omega
      walk_at "r"
      refine ⟨_, rfl, fun D hD => lc_S (l := [110, 102, 115]) (fun j X => PotAt X a (c + 1 + 4 * i + j) ∧ Mk3D a p2 F ((nmL n).map fun l => V.str (S l)) rs ts H X ∧ ∃ (ps : List Addr) (kvs : List (Key × V)), X D = some (.lst (ps.map V.ref)) ∧ Paired (fun p kv => X p = some (.tup [kV kv.1, kv.2])) ps kvs ∧ Paired (fun c kv => ∃ w : List Nat, w ∈ nmL n ∧ kv = (Sum.inr (S [c]), V.str (S w))) (([110, 102, 115] : List Nat).take j) kvs) ?_ ?_ ?_⟩
      · exact ⟨(Pt.new hD).mono (by omega), M.keepS (same_new hD), [], [], upd_same, .nil, .nil⟩
      · rintro j x X ej ⟨PX, MX, ps, kvs, hX, hps, hk⟩
        have Da : D ≠ a := Pt.fresh hD
        have hDH : H D = none := M.b.free Da hD
        have D2 : D ≠ p2 := fun z => by subst z; rw [M.l] at hD; cases hD
        have DF : D ≠ F := fun z => by subst z; rw [M.f] at hD; cases hD
        walk_at "r"
        refine ⟨rfl, ?_⟩
        walk_at "r"
        have hj : j < 3 := (List.getElem?_eq_some_iff.mp ej).1
        refine ⟨a, p2, _, _, rfl, PX, by omega, SqL.of MX.l, p2a, by rw [List.length_map]; omega, by rw [List.length_map]; omega, fun X2 v b2 P2 hv => ?_⟩
        obtain ⟨w2, mw, rfl⟩ := List.mem_map.mp hv
        walk_at "r"
        refine ⟨by show 2 ≤ sizeLine; decide, fun p3 hp3 => ?_⟩
        have hX2 := b2 _ _ Da hX
        have s3 := same_new hp3 (o := .tup [.str (S [x]), .str (S w2)])
        have n3 : D ≠ p3 := (fresh_ne hp3 hX2).symm
        refine ⟨_, s3 _ _ hX2, ?_, ((P2.new hp3).ne Da).mono (by omega), ((MX.keepA p2a fa PX b2).keepS s3).keepD hDH D2 DF (s3 _ _ hX2), ps ++ [p3], kvs ++ [(.inr (S [x]), .str (S w2))], by rw [upd_same]; simp, ?_, ?_⟩
        · have h1 := hps.length
          have h2 := hk.length
          rw [List.length_take] at h2
          rw [List.length_map]
          exact lt_line (by omega)
        · refine (hps.mono fun b kv h => ?_).snoc (by rw [upd_ne n3.symm]; exact upd_same)
          have nb : b ≠ D := fun z => by subst z; rw [hX] at h; cases h
          have na : b ≠ a := fun z => by
            subst z
            obtain ⟨own, sd, k, hA, _⟩ := PX
            rw [hA] at h
            cases h
          rw [upd_ne nb]
          exact s3 _ _ (b2 _ _ na h)
        · rw [take_snoc' ej]
          exact hk.snoc ⟨w2, mw, rfl⟩
      · rintro X ⟨PX, MX, ps, kvs, hX, hps, hk⟩
        replace PX : PotAt X a (c + 1 + 4 * (i : Int) + 3) := PX
        obtain ⟨f, hf, rfl, hmg⟩ := kvs_three hk
        walk_at "r"
        have Da : D ≠ a := Pt.fresh hD
        have D2 : D ≠ p2 := fun z => by subst z; rw [M.l] at hD; cases hD
        have DF : D ≠ F := fun z => by subst z; rw [M.f] at hD; cases hD
        refine ⟨D, ps, _, rfl, SqL.of hX, hps.mono fun _ _ h => SqT.of h, fun p4 hp4 => ?_⟩
        rw [hmg]
        have s4 := same_new hp4 (o := .dK (wK f))
        have M4 := MX.keepS s4
        have P4 := PX.new hp4 (o := .dK (wK f))
        have w4 : (upd X p4 (.dK (wK f))) p4 = some (.dK (wK f)) := upd_same
        have n4 : p4 ≠ a := PX.fresh hp4
        generalize upd X p4 (.dK (wK f)) = X4 at s4 M4 P4 w4 ⊢
        walk_at "r"
        refine ⟨_, rfl, .inl ⟨rfl, _, SqL.of M4.f⟩, ?_⟩
        walk_at "r"
        refine ⟨a, 2, _, rfl, P4, by omega, by decide, by decide, fun X5 v b5 P5 v0 v2 => ?_⟩
        walk_at "r"
        have M5 := M4.keepA p2a fa P4 b5
        have w5 := b5 _ _ n4 w4
        refine ⟨by show 3 ≤ sizeLine; decide, fun p6 hp6 => ?_⟩
        walk_at "r"
        have s6 := same_new hp6 (o := .tup [.str (S l), .bl (decide (V.int v = V.int 0)), .ref p4])
        have M6 := M5.keepS s6
        have P6 := P5.new hp6 (o := .tup [.str (S l), .bl (decide (V.int v = V.int 0)), .ref p4])
        have w6 := s6 _ _ w5
        have t6 : (upd X5 p6 (.tup [.str (S l), .bl (decide (V.int v = V.int 0)), .ref p4])) p6 = some (.tup [.str (S l), .bl (decide (V.int v = V.int 0)), .ref p4]) := upd_same
        generalize upd X5 p6 (.tup [.str (S l), .bl (decide (V.int v = V.int 0)), .ref p4]) = X6 at s6 M6 P6 w6 t6 ⊢
        have hnew : ∀ ds, Paired (RowD X6) ds ts → p4 ∉ ds := fun ds hds hin => by
          obtain ⟨k, hk⟩ := List.getElem?_of_mem hin
          obtain ⟨tk, ek, n9, b9, f9, g1, g2⟩ := paired_getL hds hk
          obtain ⟨rk, erk, dk, u1, u2⟩ := paired_get MX.r ek
          have u3 := s6 _ _ ((b5 _ _ (tne_pot P4 (s4 _ _ u1)) (s4 _ _ u1)))
          rw [u3] at g1
          cases g1
          rw [u2] at hp4
          cases hp4
        have hp4H : H p4 = none := But.free MX.b n4 hp4
        have lt : ts.length = i := by rw [← M.r.length, ← List.length_map (f := (·.nm)), hnm, List.length_take, hln]; omega
        refine ⟨F, _, _, rfl, rfl, M6.f, by rw [List.length_map, lt]; exact lt_line (by omega), ?_⟩
        walk_at "r"
        refine ⟨_, _, ts ++ [p6], rs ++ [⟨l, decide (V.int v = V.int 0), f⟩], rfl, (P6.ne fa).mono (by simp; omega), ⟨⟨M6.b.mut hFH, by rw [upd_ne F2.symm]; exact M6.l, by rw [upd_same, List.map_append]; rfl, (M6.r.mono fun _ _ h => h.lst M6.f).snoc (RowH.lst M6.f ⟨p4, t6, w6⟩)⟩, (M6.d.add hp4H t6 w6 hnew).lst M6.f⟩, by rw [List.map_append, hnm, take_snoc' el]; rfl, fun r hr c hc => ?_⟩
        rcases List.mem_append.mp hr with h | h
        · exact hw r h c hc
        · rw [List.mem_singleton] at h
          subst h
          exact hf c hc
    · rintro σ H' ⟨y, z, ts, rs, rfl, Pt, M, hnm, hw⟩
      walk_at "r"
      rw [List.length_map, hln] at Pt hnm
      have hl : rs.length = n := by rw [← List.length_map (f := (·.nm)), hnm, List.length_take, hln]; omega
      rw [List.take_of_length_le (by omega)] at hnm
      exact q _ _ _ M.b (Pt.mono (by omega)) ⟨ts, M.f, M.r, M.d⟩ ⟨fun z => by subst z; simp at hl; omega, by omega, by rw [hl]; exact hnm, fun r hr c hc => by rw [hnm]; exact hw r hr c hc⟩ (by omega)

def sp_Llaw_text (K : PySem.W.Frag) : Sp := fun vs H Q _ => ∃ a rs, vs = [.ref a] ∧ OwnAt K H a rs ∧ LawG rs ∧ rs.length ≤ 6 ∧ ∀ H', Same H H' → Q (.str (textF rs)) H'
theorem ok_Llaw_text (T : Txt K mg) : Ok P w K mg base CX0 (1) "_law_law_text" s_Llaw_text ["own"] (sp_Llaw_text K) := by
  obtain ⟨fd, D⟩ := T.d_Llaw_text
  refine ⟨⟨_, fd, T.g__law_law_text, D, D.bindsN (fun _ _ _ _ _ _ us hl => match us, hl with | [_], _ => rfl), ?_⟩⟩
  refine D.ok sc_Llaw_text (fun vs H Q E h => ?_) (fun cdv A outer s H vs Q E hr h => ?_)
  · obtain ⟨a, rs, rfl, ⟨ts, hL, hp⟩, hw, h6, q⟩ := h
    rfl
  · obtain ⟨a, rs, rfl, ⟨ts, hL, hp⟩, hw, h6, q⟩ := h
    refine ⟨_, PSs.nox (pss_cons (ps_set (i := 1) sc_Llaw_text.nd rfl (by first | exact Or.inl rfl | exact Or.inr rfl) (pe_lst (pa_cons (pe_strS [108, 97, 119] (by rfl)) pa_nil)))
      (pss_cons (ps_for PassesOwn.never rfl (pi_list (pv 0)) (pg_tup rfl (pgs_cons (pg_name (i := 2) sc_Llaw_text.nd rfl (by first | exact Or.inl rfl | exact Or.inr rfl)) (pgs_cons (pg_name (i := 3) sc_Llaw_text.nd rfl (by first | exact Or.inl rfl | exact Or.inr rfl)) (pgs_cons (pg_name (i := 4) sc_Llaw_text.nd rfl (by first | exact Or.inl rfl | exact Or.inr rfl)) pgs_nil))))
        (pss_cons (ps_expr (pe_bm PySem.F.plainAttrs_list PySem.F.slot_list_append PySem.F.type_list_append mt_append (pv 1) (pa_cons (pe_op o_addS (pe_op o_addS (pe_strS [115, 116, 97, 116, 101, 32] (by rfl)) (pv 2)) (pe_ifExp (pt_val (pv 3)) (pe_strS [32, 111, 102, 116, 101, 110] (by rfl)) (pe_strS [] (by rfl)))) pa_nil)))
      (pss_one (ps_expr (pe_bm PySem.F.plainAttrs_list PySem.F.slot_list_extend PySem.F.type_list_extend mt_extend (pv 1) (pa_cons (pe_lc (own := [("letter", 5)]) (g := gName 5) (tt := tYes) rfl sc_Llaw_text.nd (pi_str (pe_strS [110, 102, 115] (by rfl))) (blkOk_by (N := ["own", "rows", "name", "is_often", "ways", "letter"]) (sc := defScope s_Llaw_text) (by decide +kernel)) (fun _ _ _ _ _ => (pg_name (i := 5) sc_Llaw_text.nd rfl (by first | exact Or.inl rfl | exact Or.inr rfl))) (fun _ _ _ _ _ => pts_nil) (fun _ _ _ _ _ => (pe_op o_addS (pe_op o_addS (pe_op o_addS (pe_strS [111, 110, 32] (by rfl)) (pv 5)) (pe_strS [32] (by rfl))) (pe_dget (by exact hu_of hr) (pv 4) (pv 5) (fun _ _ => rfl))))) pa_nil))))))
      (pss_one (ps_ret (pe_jn (pe_strS [10] (by rfl)) (pv 1)))))), ?_⟩
    walk_at "r"
    have hts : ts.length = rs.length := hp.length.symm
    refine ⟨by show 1 ≤ sizeLine; decide, fun R hR => ?_⟩
    walk_at "r"
    have sR := same_new hR (o := .lst [.str (S [108, 97, 119])])
    refine ⟨a, rfl, ⟨_, Same.sql sR hL⟩, for_list (K := K) (a := a) (xs := ts.map V.ref) (fun i σ H' => ∃ y z u, σ = [some (.ref a), some (.ref R), y, z, u, none] ∧ Same H H' ∧ H' R = some (.lst ((linesF (rs.take i)).map fun l => V.str (S l)))) ⟨_, _, _, rfl, sR, upd_same⟩ (fun i σ H' _ h => by obtain ⟨_, _, _, _, s, _⟩ := h; exact Same.sql s hL) ?_ ?_⟩
    · rintro i x σ H' ex ⟨y, z, u, rfl, s, hl⟩
      rw [List.getElem?_map] at ex
      obtain ⟨t, et, rfl⟩ := Option.map_eq_some_iff.mp ex
      obtain ⟨r, er, d, ht, hd⟩ := paired_get hp et
      have hi : i < rs.length := (List.getElem?_eq_some_iff.mp er).1
      have hr : r ∈ rs := List.mem_of_getElem? er
      have n1 := (hw.nm r hr).2.1
      have ll : (linesF (rs.take i)).length ≤ 25 := by rw [linesF_len, List.length_take]; omega
      refine ⟨t, _, rfl, Same.sqt s ht, rfl, ?_⟩
      walk_at "r"
      refine ⟨_, rfl, .inl ⟨rfl, _, SqL.of hl⟩, ?_⟩
      walk_at "r"
      refine r_addS (by show 6 + r.nm.length ≤ 1000000; omega) ?_
      walk_at "r"
      refine r_iteS ?_
      refine r_addS (by have : (if r.oft = true then ([32, 111, 102, 116, 101, 110] : List Nat) else []).length ≤ 6 := (by cases r.oft <;> simp); rw [List.length_append]; show 6 + r.nm.length + _ ≤ 1000000; omega) ?_
      walk_at "r"
      refine ⟨R, _, _, rfl, rfl, hl, by rw [List.length_map]; exact lt_line (by omega), ?_⟩
      have s1 := Same.mut s hR (o := .lst ((linesF (rs.take i)).map (fun l => V.str (S l)) ++ [.str (S (stL r))]))
      have e1 : (upd H' R (.lst ((linesF (rs.take i)).map (fun l => V.str (S l)) ++ [.str (S (stL r))]))) R = some (.lst ((linesF (rs.take i)).map (fun l => V.str (S l)) ++ [.str (S (stL r))])) := upd_same
      unfold stL at s1 e1
      generalize upd H' R (.lst ((linesF (rs.take i)).map (fun l => V.str (S l)) ++ [.str (S ([115, 116, 97, 116, 101, 32] ++ r.nm ++ (if r.oft then [32, 111, 102, 116, 101, 110] else [])))])) = H1 at s1 e1 ⊢
      walk_at "r"
      refine ⟨_, rfl, .inl ⟨rfl, _, SqL.of e1⟩, ?_⟩
      walk_at "r"
      have hd1 := s1 _ _ hd
      refine ⟨_, rfl, fun D hD => lc_S (l := [110, 102, 115]) (fun j X => Same H1 X ∧ X D = some (.lst (((([110, 102, 115] : List Nat).map fun c => onL c (r.way c)).take j).map fun l => V.str (S l)))) ?_ ?_ ?_⟩
      · exact ⟨same_new hD, upd_same⟩
      · rintro j c X ec ⟨sX, hX⟩
        have hc : c = 110 ∨ c = 102 ∨ c = 115 := by
          have := List.mem_of_getElem? ec
          simpa using this
        have hj : j < 3 := (List.getElem?_eq_some_iff.mp ec).1
        have w1 := (hw.way hr hc).2.1
        walk_at "r"
        refine ⟨rfl, ?_⟩
        walk_at "r"
        refine r_addS (by simp) ?_
        walk_at "r"
        refine r_addS (by simp) ?_
        walk_at "r"
        refine ⟨d, _, rfl, by rw [← wK_get r.way hc]; exact DGet.k (k := .inr (S [c])) (sX _ _ hd1), ?_⟩
        refine r_addS (by simp; omega) ?_
        refine ⟨_, hX, ?_, Same.mut sX hD, ?_⟩
        · rw [List.length_map, List.length_take]
          exact lt_line (by omega)
        · rw [upd_same, take_snoc' (l := ([110, 102, 115] : List Nat).map fun c => onL c (r.way c)) (x := onL c (r.way c)) (by rw [List.getElem?_map, ec]; rfl), List.map_append]
          rfl
      · rintro X ⟨sX, hX⟩
        walk_at "r"
        refine ⟨R, D, _, _, rfl, rfl, sX _ _ e1, hX, ?_, ?_⟩
        · rw [List.length_append, List.length_map, List.length_map]
          exact Nat.le_of_lt (lt_line (by simp; omega))
        · walk_at "r"
          refine ⟨_, _, _, rfl, Same.mut (Same.trans s1 sX) hR, ?_⟩
          rw [upd_same, take_snoc' er, linesF_snoc, List.map_append]
          rw [List.append_assoc]
          rfl
    · rintro σ H' ⟨y, z, u, rfl, s, hl⟩
      walk_at "r"
      rw [List.length_map, hts, List.take_length] at hl
      refine ⟨⟨_, rfl⟩, ?_⟩
      walk_at "r"
      refine ⟨_, R, (linesF rs).map S, rfl, rfl, .inl (by rw [List.map_map]; exact SqL.of hl), ?_, ?_⟩
      · have h1 : ((linesF rs).map S).length ≤ 25 := by rw [List.length_map, linesF_len]; omega
        have h2 := sum_short (B := 20) (linesF rs) fun l hl => line_short hw hl
        rw [linesF_len] at h2
        rw [S_len]
        simp only [List.length_cons, List.length_nil]
        omega
      · exact q _ s

def sp_Ldrawn (K : PySem.W.Frag) : Sp := fun vs H Q _ => ∃ (a : Addr) (c : Int), vs = [.ref a] ∧ PotAt H a c ∧ c ≤ 700000 ∧ ∀ H' p rs, But a H H' → PotAt H' a (c + 40) → OwnH H' p rs → LawG rs → rs.length ≤ 5 → Q (.ref p) H'
theorem ok_Ldrawn (T : Txt K mg) : Ok P w K mg base CX0 (4) "_law_drawn" s_Ldrawn ["pot"] (sp_Ldrawn K) := by
  obtain ⟨fd, D⟩ := T.d_Ldrawn
  refine ⟨⟨_, fd, T.g__law_drawn, D, D.bindsN (fun _ _ _ _ _ _ us hl => match us, hl with | [_], _ => rfl), ?_⟩⟩
  refine D.ok sc_Ldrawn (fun vs H Q E h => ?_) (fun cdv A outer s H vs Q E hr h => ?_)
  · obtain ⟨a, c, rfl, hP, hc, q⟩ := h
    rfl
  · obtain ⟨a, c, rfl, hP, hc, q⟩ := h
    have F_Llaw_drawn := ok_Llaw_drawnD (P := P) (w := w) (K := K) (mg := mg) (base := base) T
    have F_Ltake := ok_Ltake (P := P) (w := w) (K := K) (mg := mg) (base := base) T
    have F_Lof := ok_Lof (P := P) (w := w) (K := K) (mg := mg) (base := base) T
    refine ⟨_, PSs.nox (pss_cons (ps_set (i := 1) sc_Ldrawn.nd rfl (by first | exact Or.inl rfl | exact Or.inr rfl) (pe_cl F_Llaw_drawn hr (by rfl) pass0 (pa_cons (pv 0) (pa_cons pe_int pa_nil))))
      (pss_cons (ps_if (pt_cmpR op_eq (pe_cl F_Ltake hr (by rfl) pass0 (pa_cons (pv 0) (pa_cons pe_int pa_nil))) pe_int (nomark _))
        (pss_cons (ps_set (i := 1) sc_Ldrawn.nd rfl (by first | exact Or.inl rfl | exact Or.inr rfl) (pe_op op_cat (pv 1) (pe_lst (pa_cons (pe_tup (pa_cons (pe_strS [122] (by rfl)) (pa_cons pe_bl (pa_cons (pe_disp (pps_cons (pe_strS [110] (by rfl)) (pe_strS [122] (by rfl)) (pps_cons (pe_strS [102] (by rfl)) (pe_strS [122] (by rfl)) (pps_cons (pe_strS [115] (by rfl)) (pe_strS [122] (by rfl)) pps_nil))) (by rfl) (by rfl) (fun z => by cases z) (by decide)) pa_nil)))) pa_nil))))
      (pss_cons (ps_set (i := 2) sc_Ldrawn.nd rfl (by first | exact Or.inl rfl | exact Or.inr rfl) (pe_cl F_Ltake hr (by rfl) pass0 (pa_cons (pv 0) (pa_cons (pe_callB k_lnQ (by rfl) T.z_len (by decide +kernel) (pa_cons (pv 1) pa_nil)) pa_nil))))
      (pss_one (ps_dput (hu_of hr) (pe_ix ix_tup (pe_ix ix_list (pv 1) (pv 2) (fun _ _ => rfl)) pe_int (fun _ _ => rfl)) (pe_cl F_Lof hr (by rfl) pass0 (pa_cons (pv 0) (pa_cons (pe_callTy (call_list_txt rfl) (by rfl) T.z_list (by decide +kernel) (pa_cons (pe_strS [110, 102, 115] (by rfl)) pa_nil)) pa_nil))) (pe_strS [122] (by rfl)) (by rfl)))))
        pss_nil)
      (pss_one (ps_ret (pv 1))))), ?_⟩
    walk_at "r"
    refine ⟨a, c, 4, rfl, by decide, by decide, hP, by omega, fun H1 p rs b1 P1 hO hw h4 => ?_⟩
    walk_at "r"
    refine ⟨a, 3, _, rfl, P1, by omega, by decide, by decide, fun H2 k b2 P2 k0 k3 => ?_⟩
    walk_at "r"
    refine r_dec (fun h => ?_) (fun h => ?_)
    · walk_at "r"
      have hO2 : OwnD H H2 p rs := by
        obtain ⟨ts, a1, a2, a3⟩ := hO
        exact ⟨ts, b2 _ _ (hO_ne a1 a2 hw P1) a1, a2.mono fun _ _ h => h.but b2 P1, a3.but b2 P1⟩
      have B2 := b1.trans b2
      clear hO
      obtain ⟨ts, eP, pR, ds, nd, pD, fD⟩ := hO2
      intro pd hpd
      walk_at "r"
      refine ⟨upd_same, [(.inr (S [110]), .str (S [122])), (.inr (S [102]), .str (S [122])), (.inr (S [115]), .str (S [122]))], rfl, by show (3 : Nat) ≤ 15; decide, ?_⟩
      rw [show mergeK [] [((.inr (S [110]) : Key), V.str (S [122])), (.inr (S [102]), .str (S [122])), (.inr (S [115]), .str (S [122]))] = wK zRow.way from merge_all (ways3_nodup fun _ => .str (S [122]))]
      walk_at "r"
      have sd := Same.mut (same_new hpd (o := .dK [])) hpd (o := .dK (wK zRow.way))
      have ed : (upd (upd H2 pd (.dK [])) pd (.dK (wK zRow.way))) pd = some (.dK (wK zRow.way)) := upd_same
      generalize upd (upd H2 pd (.dK [])) pd (.dK (wK zRow.way)) = X1 at sd ed ⊢
      refine ⟨by show 3 ≤ sizeLine; decide, fun pt hpt => ?_⟩
      walk_at "r"
      have st := same_new hpt (o := .tup [.str (S [122]), .bl false, .ref pd])
      have et : (upd X1 pt (.tup [.str (S [122]), .bl false, .ref pd])) pt = some (.tup [.str (S [122]), .bl false, .ref pd]) := upd_same
      have ed2 := st _ _ ed
      generalize upd X1 pt (.tup [.str (S [122]), .bl false, .ref pd]) = X2 at st et ed2 ⊢
      refine ⟨by show 1 ≤ sizeLine; decide, fun pl hpl => ?_⟩
      have sl := same_new hpl (o := .lst [.ref pt])
      have el : (upd X2 pl (.lst [.ref pt])) pl = some (.lst [.ref pt]) := upd_same
      have et3 := sl _ _ et
      have ed3 := sl _ _ ed2
      generalize upd X2 pl (.lst [.ref pt]) = X3 at sl el et3 ed3 ⊢
      have s3 := Same.trans (Same.trans sd st) sl
      have lts : ts.length = rs.length := pR.length.symm
      refine ⟨p, pl, _, _, rfl, rfl, s3 _ _ eP, el, by rw [List.length_map]; exact Nat.le_of_lt (lt_line (by simp; omega)), fun p4 hp4 => ?_⟩
      rw [show ts.map V.ref ++ [V.ref pt] = (ts ++ [pt]).map V.ref by rw [List.map_append]; rfl]
      have s4 := Same.trans s3 (same_new hp4 (o := .lst ((ts ++ [pt]).map V.ref)))
      have e4 : (upd X3 p4 (.lst ((ts ++ [pt]).map V.ref))) p4 = some (.lst ((ts ++ [pt]).map V.ref)) := upd_same
      have et4 := (same_new hp4 (o := .lst ((ts ++ [pt]).map V.ref))) _ _ et3
      have ed4 := (same_new hp4 (o := .lst ((ts ++ [pt]).map V.ref))) _ _ ed3
      have np4 : p4 ≠ a := ((((P2.same sd).same st).same sl)).fresh hp4
      generalize upd X3 p4 (.lst ((ts ++ [pt]).map V.ref)) = X4 at s4 e4 et4 ed4 ⊢
      have P4 := P2.same s4
      walk_at "r"
      refine r_lnL (SqL.of e4) ?_
      walk_at "r"
      refine ⟨a, _, _, rfl, P4, by omega, by rw [List.length_map, List.length_append]; simp; done, by rw [List.length_map, List.length_append]; simp; omega, fun X5 k5 b5 P5 k50 k5n => ?_⟩
      obtain ⟨j, rfl⟩ := Int.eq_ofNat_of_zero_le k50
      have hj : j < (ts ++ [pt]).length := by simp at k5n ⊢; omega
      have hdf : H pd = none := But.free B2 (P2.fresh hpd) hpd
      have pR4 : Paired (RowH X4) (rs ++ [zRow]) (ts ++ [pt]) := (pR.mono fun _ _ h => h.same s4).snoc ⟨pd, et4, ed4⟩
      have nds : pd ∉ ds := fun z => by
        obtain ⟨k, hk⟩ := List.getElem?_of_mem z
        obtain ⟨tk, _, n9, b9, f9, g1, g2⟩ := paired_getL pD hk
        rw [g2] at hpd
        cases hpd
      have nd4 : (ds ++ [pd]).Nodup := by
        rw [List.nodup_append]
        exact ⟨nd, by simp, fun x hx y hy z => by rw [List.mem_singleton.mp hy] at z; exact nds (z ▸ hx)⟩
      have pD4 : Paired (RowD X4) (ds ++ [pd]) (ts ++ [pt]) := (pD.mono fun _ _ h => h.same s4).snoc ⟨_, _, _, et4, ed4⟩
      have fD4 : ∀ d ∈ ds ++ [pd], H d = none := fun d hd => by
        rcases List.mem_append.mp hd with h | h
        · exact fD d h
        · rw [List.mem_singleton.mp h]; exact hdf
      have B5 := (B2.trans (But.of s4)).trans b5
      have e5 := b5 _ _ np4 e4
      have pR5 := pR4.mono fun _ _ h => h.but b5 P4
      have pD5 := pD4.mono fun _ _ h => h.but b5 P4
      have hg := hw.addZ
      clear pR4 pD4 et4 ed4 e4 et3 ed3 el et ed ed2
      walk_at "r"
      have etj : (ts ++ [pt])[j]? = some (ts ++ [pt])[j] := List.getElem?_eq_getElem hj
      generalize (ts ++ [pt])[j] = tj at etj
      obtain ⟨r, er, dj, htj, hdj⟩ := paired_get pR5 etj
      refine r_ixL (SqL.of e5) (v := .ref tj) (atI_nat (by rw [List.getElem?_map, etj]; rfl)) ?_
      walk_at "r"
      refine r_ixT (SqT.of htj) (atI_nat (j := 2) rfl) ?_
      walk_at "r"
      refine r_listS (by decide) fun pn hpn => ?_
      have sn := same_new hpn (o := .lst (([110, 102, 115] : List Nat).map fun c => V.str (S [c])))
      have en : (upd X5 pn (.lst (([110, 102, 115] : List Nat).map fun c => V.str (S [c])))) pn = some (.lst (([110, 102, 115] : List Nat).map fun c => V.str (S [c]))) := upd_same
      have nna := P5.fresh hpn
      generalize upd X5 pn (.lst (([110, 102, 115] : List Nat).map fun c => V.str (S [c]))) = X6 at sn en ⊢
      have P6 := P5.same sn
      walk_at "r"
      refine ⟨a, pn, _, _, rfl, P6, by omega, SqL.of en, nna, by decide, by decide, fun X7 v7 b7 P7 hv7 => ?_⟩
      obtain ⟨ch, hch, rfl⟩ := List.mem_map.mp hv7
      have hcf : Fa ch := by simpa [Fa] using hch
      have e7 := b7 _ _ np4 (sn _ _ e5)
      have pR7 := (pR5.mono fun _ _ h => h.same sn).mono fun _ _ h => h.but b7 P6
      have pD7 := (pD5.mono fun _ _ h => h.same sn).mono fun _ _ h => h.but b7 P6
      have dja : dj ≠ a := dne_pot P5 hdj
      have htj7 := b7 _ _ (tne_pot P6 (sn _ _ htj)) (sn _ _ htj)
      have hdj7 := b7 _ _ dja (sn _ _ hdj)
      have hdm := List.mem_of_getElem? (ds_at pD7 etj htj7)
      refine ⟨dj, _, rfl, DPut.k (k := .inr (S [ch])) hdj7 (by show 3 < sizeLine; decide), ?_⟩
      rw [wK_put r.way hcf]
      walk_at "r"
      refine q _ p4 ((rs ++ [zRow]).set j ⟨r.nm, r.oft, fun x => if x = ch then [122] else r.way x⟩) (((B5.trans (But.of sn)).trans b7).mut (fD4 _ hdm)) ((P7.ne dja).mono (by omega)) (own_mut e7 pR7 nd4 pD7 er etj htj7 hdj7) (hg.set er fun c hc => ?_) (by rw [List.length_set, List.length_append]; simp; omega)
      by_cases hcc : c = ch
      · rw [if_pos hcc, List.map_append]
        exact List.mem_append_right _ (List.mem_singleton.mpr rfl)
      · rw [if_neg hcc]
        exact hg.cl r (List.mem_of_getElem? er) c hc
    · walk_at "r"
      exact q _ p rs (b1.trans b2) (P2.mono (by omega)) (hO.h.but b2 P1) hw.g (by omega)

def sp_Llaw_ways (K : PySem.W.Frag) : Sp := fun vs H Q _ => ∃ a rs, vs = [.ref a] ∧ OwnAt K H a rs ∧ Uniq rs ∧ rs.length ≤ 1000 ∧ ∀ H' p, Same H H' → WaysAt H' p rs → Q (.ref p) H'
theorem ok_Llaw_ways (T : Txt K mg) : Ok P w K mg base CX0 (1) "_law_law_ways" s_Llaw_ways ["own"] (sp_Llaw_ways K) := by
  obtain ⟨fd, D⟩ := T.d_Llaw_ways
  refine ⟨⟨_, fd, T.g__law_law_ways, D, D.bindsN (fun _ _ _ _ _ _ us hl => match us, hl with | [_], _ => rfl), ?_⟩⟩
  refine D.ok sc_Llaw_ways (fun vs H Q E h => ?_) (fun cdv A outer s H vs Q E hr h => ?_)
  · obtain ⟨a, rs, rfl, ⟨ts, hL, hp⟩, hu, hz, q⟩ := h
    rfl
  · obtain ⟨a, rs, rfl, ⟨ts, hL, hp⟩, hu, hz, q⟩ := h
    refine ⟨_, PSs.nox (pss_one (ps_ret (pe_callTy (call_dictP rfl) (by rfl) T.z_dict (by decide +kernel) (pa_cons (pe_lc (own := [("name", 1), ("is_often", 2), ("ways", 3)]) (g := gTup K 3 (gCons (gName 1) (gCons (gName 2) (gCons (gName 3) gNil)))) (tt := tYes) rfl sc_Llaw_ways.nd (pi_list (pv 0)) (blkOk_by (N := ["own", "name", "is_often", "ways"]) (sc := defScope s_Llaw_ways) (by decide +kernel)) (fun _ _ _ _ _ => (pg_tup rfl (pgs_cons (pg_name (i := 1) sc_Llaw_ways.nd rfl (by first | exact Or.inl rfl | exact Or.inr rfl)) (pgs_cons (pg_name (i := 2) sc_Llaw_ways.nd rfl (by first | exact Or.inl rfl | exact Or.inr rfl)) (pgs_cons (pg_name (i := 3) sc_Llaw_ways.nd rfl (by first | exact Or.inl rfl | exact Or.inr rfl)) pgs_nil))))) (fun _ _ _ _ _ => pts_nil) (fun _ _ _ _ _ => (pe_tup (pa_cons (pv 1) (pa_cons (pv 3) pa_nil))))) pa_nil)))), ?_⟩
    walk_at "r"
    have hts : ts.length = rs.length := hp.length.symm
    refine ⟨a, rfl, ⟨_, hL⟩, fun D hD => lc_list (K := K) (a := a) (xs := ts.map V.ref) (fun i H' => Same H H' ∧ ∃ (ps : List Addr) (kvs : List (Key × V)), H' D = some (.lst (ps.map V.ref)) ∧ ps.length = i ∧ Paired (fun p kv => p ≠ D ∧ SqT K H' p [kV kv.1, kv.2]) ps kvs ∧ Paired (WRow H') (rs.take i) kvs) ?_ ?_ ?_ ?_⟩
    · exact ⟨same_new hD, [], [], upd_same, rfl, .nil, .nil⟩
    · exact fun i H' _ h => Same.sql h.1 hL
    · intro i x H' e ⟨s, ps, kvs, hl, hn, hP, hW⟩
      rw [List.getElem?_map] at e
      obtain ⟨t, et, rfl⟩ := Option.map_eq_some_iff.mp e
      obtain ⟨r, er, d, ht, hd⟩ := paired_get hp et
      have hi : i < rs.length := (List.getElem?_eq_some_iff.mp er).1
      refine ⟨t, _, rfl, Same.sqt s ht, rfl, ?_⟩
      walk_at "r"
      refine ⟨rfl, ?_⟩
      walk_at "r"
      refine ⟨by show 2 ≤ sizeLine; decide, fun p hp2 => ?_⟩
      have s1 := same_new hp2 (o := .tup [.str (S r.nm), .ref d])
      have nD : D ≠ p := (fresh_ne hp2 hl).symm
      have hD1 := s1 _ _ hl
      refine ⟨_, hD1, by rw [List.length_map, hn]; exact lt_line (by omega), Same.mut (Same.trans s s1) hD, ps ++ [p], kvs ++ [(.inr (S r.nm), .ref d)], by rw [upd_same]; simp, by simp [hn], ?_, ?_⟩
      · refine (hP.mono fun b kv h => ⟨h.1, But.sqt (But.refl.put (a := D)) h.1 (Same.sqt s1 h.2)⟩).snoc ⟨nD.symm, But.sqt (But.refl.put (a := D)) nD.symm (SqT.of upd_same)⟩
      · rw [take_snoc' er]
        refine (hW.mono fun b kv h => ?_).snoc ⟨d, rfl, ?_⟩
        · obtain ⟨d2, h1, h2⟩ := h
          exact ⟨d2, h1, by rw [upd_ne (fun z => by subst z; rw [hl] at h2; cases h2)]; exact s1 _ _ h2⟩
        · have h2 := s _ _ hd
          rw [upd_ne (fun z => by subst z; rw [hl] at h2; cases h2)]
          exact s1 _ _ h2
    · intro H' ⟨s, ps, kvs, hl, hn, hP, hW⟩
      walk_at "r"
      rw [List.length_map, hts, List.take_length] at hW
      refine ⟨D, ps, kvs, rfl, SqL.of hl, hP.mono fun _ _ h => h.2, fun p hp3 => ?_⟩
      rw [merge_all (ways_nodup hW hu)]
      walk_at "r"
      have s2 := same_new hp3 (o := .dK kvs)
      exact q _ _ (Same.trans s s2) ⟨kvs, upd_same, hW.mono fun _ _ h => h.same s2⟩
def sp_Llaw_after (K : PySem.W.Frag) : Sp := fun vs H Q _ => ∃ a rs w, vs = [.ref a, .str (S w)] ∧ OwnAt K H a rs ∧ Uniq rs ∧ rs.length ≤ 1000 ∧ Closed rs ∧ rs ≠ [] ∧ Wd w ∧ ∀ H', Same H H' → Q (.str (S (runF rs (firstOf rs) w))) H'
theorem ok_Llaw_after (T : Txt K mg) : Ok P w K mg base CX0 (2) "_law_law_after" s_Llaw_after ["own", "word"] (sp_Llaw_after K) := by
  obtain ⟨fd, D⟩ := T.d_Llaw_after
  refine ⟨⟨_, fd, T.g__law_law_after, D, D.bindsN (fun _ _ _ _ _ _ us hl => match us, hl with | [_, _], _ => rfl), ?_⟩⟩
  refine D.ok sc_Llaw_after (fun vs H Q E h => ?_) (fun cdv A outer s H vs Q E hr h => ?_)
  · obtain ⟨a, rs, wd, rfl, hO, hu, hz, hc, hne, hw, q⟩ := h
    rfl
  · obtain ⟨a, rs, wd, rfl, hO, hu, hz, hc, hne, hw, q⟩ := h
    have F_Llaw_ways := ok_Llaw_ways (P := P) (w := w) (K := K) (mg := mg) (base := base) T
    refine ⟨_, PSs.nox (pss_cons (ps_par (i := 3) (j := 4) (by rfl) sc_Llaw_after.nd rfl rfl (by decide) rfl rfl (pa_cons (pe_cl F_Llaw_ways hr (by rfl) pass0 (pa_cons (pv 0) pa_nil)) (pa_cons (pe_ix ix_tup (pe_ix ix_list (pv 0) pe_int (fun _ _ => rfl)) pe_int (fun _ _ => rfl)) pa_nil)) (by rfl))
      (pss_cons (ps_for PassesOwn.never rfl (pi_str (pv 1)) (pg_name (i := 2) sc_Llaw_after.nd rfl (by first | exact Or.inl rfl | exact Or.inr rfl))
        (pss_one (ps_set (i := 4) sc_Llaw_after.nd rfl (by first | exact Or.inl rfl | exact Or.inr rfl) (pe_dget (hu_of hr) (pe_dget (hu_of hr) (pv 3) (pv 4) (fun _ _ => rfl)) (pv 2) (fun _ _ => rfl)))))
      (pss_one (ps_ret (pv 4))))), ?_⟩
    walk_at "r"
    refine ⟨a, rs, rfl, hO, hu, hz, fun H1 p e hW => ?_⟩
    walk_at "r"
    obtain ⟨ts, hL, hp⟩ := hO.same e
    obtain ⟨r, hr, er⟩ := first_ix hne
    obtain ⟨t, ht, d, hT, hd⟩ := paired_getL hp hr
    refine r_ixL hL (v := .ref t) ?_ ?_
    · show atI (ts.map V.ref) 0 = _
      exact atI_nat (j := 0) (by rw [List.getElem?_map, ht]; rfl)
    walk_at "r"
    refine r_ixT hT (v := .str (S r.nm)) rfl ?_
    rw [er]
    walk_at "r"
    refine ⟨_, _, rfl, ?_⟩
    walk_at "r"
    refine ⟨_, rfl, for_S (l := wd) (fun i σ H' => ∃ y, σ = [some (.ref a), some (.str (S wd)), y, some (.ref p), some (.str (S (runF rs (firstOf rs) (wd.take i))))] ∧ H' = H1) ⟨_, rfl, rfl⟩ ?_ ?_⟩
    · rintro i c σ H' ec ⟨y, rfl, rfl⟩
      walk_at "r"
      obtain ⟨d2, g1, g2⟩ := ways_step hW (runF_mem hc (hw.take i) (first_mem hne)) (hw.get ec)
      refine ⟨p, _, rfl, g1, ?_⟩
      walk_at "r"
      refine ⟨d2, _, rfl, g2, ?_⟩
      walk_at "r"
      exact ⟨_, by rw [take_snoc ec, runF_snoc]; rfl, rfl⟩
    · rintro σ H' ⟨y, rfl, rfl⟩
      walk_at "r"
      rw [List.take_length]
      exact q _ e
def sp_Llaw_reached (K : PySem.W.Frag) : Sp := fun vs H Q _ => ∃ a rs s0, vs = [.ref a, .str (S s0)] ∧ OwnAt K H a rs ∧ Uniq rs ∧ Closed rs ∧ rs.length ≤ 100 ∧ s0 ∈ rs.map (·.nm) ∧ ∀ H' p (F : List (List Nat)), Same H H' → H' p = some (.lst (F.map fun l => V.str (S l))) → F.length ≤ 100 → (∀ s, s ∈ F ↔ ∃ wd, Wd wd ∧ wd ≠ [] ∧ runF rs s0 wd = s) → Q (.ref p) H'
theorem ok_Llaw_reached (T : Txt K mg) : Ok P w K mg base CX0 (2) "_law_law_reached" s_Llaw_reached ["own", "start"] (sp_Llaw_reached K) := by
  obtain ⟨fd, D⟩ := T.d_Llaw_reached
  refine ⟨⟨_, fd, T.g__law_law_reached, D, D.bindsN (fun _ _ _ _ _ _ us hl => match us, hl with | [_, _], _ => rfl), ?_⟩⟩
  refine D.ok sc_Llaw_reached (fun vs H Q E h => ?_) (fun cdv A outer s H vs Q E hr h => ?_)
  · obtain ⟨a, rs, s0, rfl, hO, hu, hc, hz, h0, q⟩ := h
    rfl
  · obtain ⟨a, rs, s0, rfl, hO, hu, hc, hz, h0, q⟩ := h
    have F_Llaw_ways := ok_Llaw_ways (P := P) (w := w) (K := K) (mg := mg) (base := base) T
    refine ⟨_, PSs.nox (pss_cons (ps_par3 (i := 3) (j := 4) (l := 5) (by rfl) sc_Llaw_reached.nd rfl rfl rfl (by decide) (by decide) (by decide) rfl rfl rfl (pa_cons (pe_cl F_Llaw_ways hr (by rfl) pass0 (pa_cons (pv 0) pa_nil)) (pa_cons (pe_lst pa_nil) (pa_cons (pe_lst (pa_cons (pv 1) pa_nil)) pa_nil))) (by rfl))
      (pss_cons (ps_for PassesOwn.never rfl (pi_list (pv 0)) (pg_name (i := 2) sc_Llaw_reached.nd rfl (by first | exact Or.inl rfl | exact Or.inr rfl))
        (pss_cons (ps_set (i := 6) sc_Llaw_reached.nd rfl (by first | exact Or.inl rfl | exact Or.inr rfl) (pe_lst pa_nil))
      (pss_cons (ps_for PassesOwn.never rfl (pi_list (pv 5)) (pg_name (i := 7) sc_Llaw_reached.nd rfl (by first | exact Or.inl rfl | exact Or.inr rfl))
        (pss_one (ps_for PassesOwn.never rfl (pi_str (pe_strS [110, 102, 115] (by rfl))) (pg_name (i := 8) sc_Llaw_reached.nd rfl (by first | exact Or.inl rfl | exact Or.inr rfl))
        (pss_cons (ps_set (i := 9) sc_Llaw_reached.nd rfl (by first | exact Or.inl rfl | exact Or.inr rfl) (pe_dget (hu_of hr) (pe_dget (hu_of hr) (pv 3) (pv 7) (fun _ _ => rfl)) (pv 8) (fun _ _ => rfl)))
      (pss_one (ps_if (pt_cmpR op_notIn_seq (pv 9) (pv 4) (by rfl))
        (pss_cons (ps_expr (pe_bm PySem.F.plainAttrs_list PySem.F.slot_list_append PySem.F.type_list_append mt_append (pv 4) (pa_cons (pv 9) pa_nil)))
      (pss_one (ps_expr (pe_bm PySem.F.plainAttrs_list PySem.F.slot_list_append PySem.F.type_list_append mt_append (pv 6) (pa_cons (pv 9) pa_nil)))))
        pss_nil))))))
      (pss_one (ps_set (i := 5) sc_Llaw_reached.nd rfl (by first | exact Or.inl rfl | exact Or.inr rfl) (pv 6))))))
      (pss_one (ps_ret (pv 4))))), ?_⟩
    walk_at "r"
    refine ⟨a, rs, rfl, hO, hu, by omega, fun H1 p e hW => ?_⟩
    walk_at "r"
    refine ⟨Nat.zero_le _, fun Fo hFo => ?_⟩
    walk_at "r"
    refine ⟨by show 1 ≤ sizeLine; decide, fun To hTo => ?_⟩
    walk_at "r"
    refine ⟨_, _, _, rfl, ?_⟩
    walk_at "r"
    obtain ⟨ts, hL, hp⟩ := hO.same e
    have hts : ts.length = rs.length := hp.length.symm
    have nTF : To ≠ Fo := fun z => by subst z; rw [upd_same] at hTo; cases hTo
    have hTo1 : H1 To = none := by rw [upd_ne nTF] at hTo; exact hTo
    have sX : Same H1 (upd (upd H1 Fo (.lst [])) To (.lst [.str (S s0)])) := Same.mut (same_new hFo) hTo1
    refine ⟨a, rfl, ⟨_, Same.sql sX hL⟩, for_list (K := K) (a := a) (xs := ts.map V.ref) (fun i σ X => ∃ lp la he le ot To F T, σ = [some (.ref a), some (.str (S s0)), lp, some (.ref p), some (.ref Fo), some (.ref To), la, he, le, ot] ∧ Same H1 X ∧ X Fo = some (.lst (F.map fun l => V.str (S l))) ∧ X To = some (.lst (T.map fun l => V.str (S l))) ∧ To ≠ Fo ∧ Rch rs s0 i F T) ⟨_, _, _, _, _, To, [], [s0], rfl, sX, by rw [upd_ne nTF.symm]; exact upd_same, upd_same, nTF, Rch.zero⟩ (fun i σ X _ h => by obtain ⟨_, _, _, _, _, _, _, _, _, s, _⟩ := h; exact Same.sql s hL) ?_ ?_⟩
    · rintro i x σ X ex ⟨lp, la, he, le, ot, To, F, T, rfl, s, eF, eT, nTF, R⟩
      walk_at "r"
      refine ⟨Nat.zero_le _, fun La hLa => ?_⟩
      walk_at "r"
      have s2 := same_new hLa (o := .lst [])
      have hLa1 : H1 La = none := by
        cases z : H1 La with
        | none => rfl
        | some o => rw [s _ _ z] at hLa; cases hLa
      have nLF : La ≠ Fo := fresh_ne hLa eF
      have nLT : La ≠ To := fresh_ne hLa eT
      refine ⟨To, rfl, ⟨_, SqL.of (s2 _ _ eT)⟩, for_list (K := K) (a := To) (xs := T.map fun l => V.str (S l)) (fun j σ X => ∃ he le ot L, σ = [some (.ref a), some (.str (S s0)), some x, some (.ref p), some (.ref Fo), some (.ref To), some (.ref La), he, le, ot] ∧ Same H1 X ∧ X Fo = some (.lst ((F ++ L).map fun l => V.str (S l))) ∧ X To = some (.lst (T.map fun l => V.str (S l))) ∧ X La = some (.lst (L.map fun l => V.str (S l))) ∧ RchL rs s0 F T L j) ⟨_, _, _, [], rfl, Same.trans s s2, by rw [List.append_nil]; exact s2 _ _ eF, s2 _ _ eT, upd_same, R.begin⟩ (fun j σ X _ h => by obtain ⟨_, _, _, _, _, _, _, h, _⟩ := h; exact SqL.of h) ?_ ?_⟩
      · rintro j y σ X2 ey ⟨he, le, ot, L, rfl, s3, fF, fT, fL, M⟩
        rw [List.getElem?_map] at ey
        obtain ⟨h, eh, rfl⟩ := Option.map_eq_some_iff.mp ey
        have mh : h ∈ rs.map (·.nm) := R.tn hc h0 (List.mem_of_getElem? eh)
        walk_at "r"
        refine ⟨_, rfl, for_S (l := [110, 102, 115]) (fun k σ X => ∃ le ot L, σ = [some (.ref a), some (.str (S s0)), some x, some (.ref p), some (.ref Fo), some (.ref To), some (.ref La), some (.str (S h)), le, ot] ∧ Same H1 X ∧ X Fo = some (.lst ((F ++ L).map fun l => V.str (S l))) ∧ X To = some (.lst (T.map fun l => V.str (S l))) ∧ X La = some (.lst (L.map fun l => V.str (S l))) ∧ RchM rs s0 F T L j h k) ⟨_, _, L, rfl, s3, fF, fT, fL, M.begin⟩ ?_ ?_⟩
        · rintro k c σ X3 ec ⟨le, ot, L, rfl, s4, gF, gT, gL, N⟩
          have hcl : c = 110 ∨ c = 102 ∨ c = 115 := by have := List.mem_of_getElem? ec; simpa using this
          walk_at "r"
          obtain ⟨d2, g1, g2⟩ := ways_step (hW.same s4) mh hcl
          refine ⟨p, _, rfl, g1, ?_⟩
          walk_at "r"
          refine ⟨d2, _, rfl, g2, ?_⟩
          walk_at "r"
          refine r_notInNm (.inl (SqL.of gF)) ?_
          walk_at "r"
          have hl := rch_len N.r N.nd hc h0
          by_cases hx : toF rs h c ∈ F ++ L
          · rw [decide_eq_true hx]
            walk_at "r"
            exact ⟨_, _, L, rfl, s4, gF, gT, gL, N.old ec hx⟩
          · rw [decide_eq_false hx]
            walk_at "r"
            refine ⟨_, rfl, .inl ⟨rfl, _, SqL.of gF⟩, ?_⟩
            walk_at "r"
            refine ⟨Fo, _, _, rfl, rfl, gF, by rw [List.length_map]; exact lt_line (by omega), ?_⟩
            have s5 := Same.mut s4 hFo (o := .lst ((F ++ L).map (fun l => V.str (S l)) ++ [.str (S (toF rs h c))]))
            have kF : (upd X3 Fo (.lst ((F ++ L).map (fun l => V.str (S l)) ++ [.str (S (toF rs h c))]))) Fo = some (.lst ((F ++ L).map (fun l => V.str (S l)) ++ [.str (S (toF rs h c))])) := upd_same
            have kT : (upd X3 Fo (.lst ((F ++ L).map (fun l => V.str (S l)) ++ [.str (S (toF rs h c))]))) To = _ := (upd_ne nTF).trans gT
            have kL : (upd X3 Fo (.lst ((F ++ L).map (fun l => V.str (S l)) ++ [.str (S (toF rs h c))]))) La = _ := (upd_ne nLF).trans gL
            generalize upd X3 Fo (.lst ((F ++ L).map (fun l => V.str (S l)) ++ [.str (S (toF rs h c))])) = X4 at s5 kF kT kL ⊢
            walk_at "r"
            refine ⟨_, rfl, .inl ⟨rfl, _, SqL.of kL⟩, ?_⟩
            walk_at "r"
            have hl2 : L.length ≤ 100 := by rw [List.length_append] at hl; omega
            refine ⟨La, _, _, rfl, rfl, kL, by rw [List.length_map]; exact lt_line (by omega), ?_⟩
            walk_at "r"
            refine ⟨_, _, L ++ [toF rs h c], rfl, Same.mut s5 hLa1, ?_, (upd_ne nLT.symm).trans kT, ?_, N.new R eh ec hcl hx⟩
            · rw [upd_ne nLF.symm, kF, ← List.append_assoc, List.map_append (l₁ := F ++ L)]
              rfl
            · rw [upd_same, List.map_append]
              rfl
        · rintro σ X3 ⟨le, ot, L, rfl, s4, gF, gT, gL, N⟩
          walk_at "r"
          exact ⟨_, _, _, L, rfl, s4, gF, gT, gL, N.finish eh⟩
      · rintro σ X2 ⟨he, le, ot, L, rfl, s3, fF, fT, fL, M⟩
        rw [List.length_map] at M
        walk_at "r"
        exact ⟨_, _, _, _, _, La, F ++ L, L, rfl, s3, fF, fL, nLF, RchL.finish R M⟩
    · rintro σ X ⟨lp, la, he, le, ot, To, F, T, rfl, s, eF, eT, nTF, R⟩
      rw [List.length_map, hts] at R
      walk_at "r"
      exact q _ _ F (Same.trans e s) eF (Nat.le_trans (rch_len R.r R.nd hc h0) hz) (R.all rfl hc h0)
def sp_Llaw_living (K : PySem.W.Frag) : Sp := fun vs H Q _ => ∃ a rs, vs = [.ref a] ∧ OwnAt K H a rs ∧ Uniq rs ∧ Closed rs ∧ rs.length ≤ 100 ∧ ∀ H' p (L : List (List Nat)), Same H H' → H' p = some (.lst (L.map fun l => V.str (S l))) → L.length ≤ 100 → (∀ s, s ∈ L ↔ s ∈ rs.map (·.nm) ∧ Lives rs s) → Q (.ref p) H'
theorem ok_Llaw_living (T : Txt K mg) : Ok P w K mg base CX0 (3) "_law_law_living" s_Llaw_living ["own"] (sp_Llaw_living K) := by
  obtain ⟨fd, D⟩ := T.d_Llaw_living
  refine ⟨⟨_, fd, T.g__law_law_living, D, D.bindsN (fun _ _ _ _ _ _ us hl => match us, hl with | [_], _ => rfl), ?_⟩⟩
  refine D.ok sc_Llaw_living (fun vs H Q E h => ?_) (fun cdv A outer s H vs Q E hr h => ?_)
  · obtain ⟨a, rs, rfl, hO, hu, hc, hz, q⟩ := h
    rfl
  · obtain ⟨a, rs, rfl, hO, hu, hc, hz, q⟩ := h
    have F_Llaw_reached := ok_Llaw_reached (P := P) (w := w) (K := K) (mg := mg) (base := base) T
    refine ⟨_, PSs.nox (pss_cons (ps_set (i := 1) sc_Llaw_living.nd rfl (by first | exact Or.inl rfl | exact Or.inr rfl) (pe_lc (own := [("name", 3), ("is_often", 4), ("ways", 5)]) (g := gTup K 3 (gCons (gName 3) (gCons (gName 4) (gCons (gName 5) gNil)))) rfl sc_Llaw_living.nd (pi_list (pv 0)) (blkOk_by (N := ["own", "rings", "found", "name", "is_often", "ways", "one"]) (sc := defScope s_Llaw_living) (by decide +kernel)) (fun _ _ _ _ _ => (pg_tup rfl (pgs_cons (pg_name (i := 3) sc_Llaw_living.nd rfl (by first | exact Or.inl rfl | exact Or.inr rfl)) (pgs_cons (pg_name (i := 4) sc_Llaw_living.nd rfl (by first | exact Or.inl rfl | exact Or.inr rfl)) (pgs_cons (pg_name (i := 5) sc_Llaw_living.nd rfl (by first | exact Or.inl rfl | exact Or.inr rfl)) pgs_nil))))) (fun _ _ _ _ _ => (pts_one (PW.pt (pw_and (pt_val (pv 4)) (pw_and1 (pt_cmpR (show OpR _ _ (rIn K false) from op_in_seq) (pv 3) (pe_cl F_Llaw_reached hr (by rfl) pass0 (pa_cons (pv 0) (pa_cons (pv 3) pa_nil))) (by rfl))))))) (fun _ _ _ _ _ => (pv 3))))
      (pss_cons (ps_set (i := 2) sc_Llaw_living.nd rfl (by first | exact Or.inl rfl | exact Or.inr rfl) (pe_lst pa_nil))
      (pss_cons (ps_for PassesOwn.never rfl (pi_list (pv 0)) (pg_tup rfl (pgs_cons (pg_name (i := 3) sc_Llaw_living.nd rfl (by first | exact Or.inl rfl | exact Or.inr rfl)) (pgs_cons (pg_name (i := 4) sc_Llaw_living.nd rfl (by first | exact Or.inl rfl | exact Or.inr rfl)) (pgs_cons (pg_name (i := 5) sc_Llaw_living.nd rfl (by first | exact Or.inl rfl | exact Or.inr rfl)) pgs_nil))))
        (pss_one (ps_if (PW.pt (pw_or (pt_cmpR op_in_seq (pv 3) (pv 1) (by rfl)) (pw_or1 (pt_val (pe_callB (cr_any rfl) (by rfl) T.z_any (by decide +kernel) (pa_cons (pe_lc (own := [("one", 6)]) (g := gName 6) (tt := tYes) rfl sc_Llaw_living.nd (pi_list (pe_cl F_Llaw_reached hr (by rfl) pass0 (pa_cons (pv 0) (pa_cons (pv 3) pa_nil)))) (blkOk_by (N := ["own", "rings", "found", "name", "is_often", "ways", "one"]) (sc := defScope s_Llaw_living) (by decide +kernel)) (fun _ _ _ _ _ => (pg_name (i := 6) sc_Llaw_living.nd rfl (by first | exact Or.inl rfl | exact Or.inr rfl))) (fun _ _ _ _ _ => pts_nil) (fun _ _ _ _ _ => (pe_cmpR (show OpR _ _ (rIn K false) from op_in_seq) (pv 6) (pv 1) (by rfl)))) pa_nil))))))
        (pss_one (ps_expr (pe_bm PySem.F.plainAttrs_list PySem.F.slot_list_append PySem.F.type_list_append mt_append (pv 2) (pa_cons (pv 3) pa_nil))))
        pss_nil)))
      (pss_one (ps_ret (pv 2)))))), ?_⟩
    walk_at "r"
    obtain ⟨ts, hL, hp⟩ := id hO
    have hts : ts.length = rs.length := hp.length.symm
    refine ⟨a, rfl, ⟨_, hL⟩, fun D hD => lc_list (K := K) (a := a) (xs := ts.map V.ref) (fun i X => Same H X ∧ ∃ R : List (List Nat), X D = some (.lst (R.map fun l => V.str (S l))) ∧ R.length ≤ i ∧ ∀ s, s ∈ R ↔ ∃ r ∈ rs.take i, r.nm = s ∧ Ring rs s) ⟨same_new hD, [], upd_same, Nat.le_refl _, fun s => by simp⟩ (fun i X _ h => Same.sql h.1 hL) ?_ ?_⟩
    · intro i x X ex ⟨s, R, eR, lR, mR⟩
      rw [List.getElem?_map] at ex
      obtain ⟨t, et, rfl⟩ := Option.map_eq_some_iff.mp ex
      obtain ⟨r, er, d, ht, hd2⟩ := paired_get hp et
      have hi : i < rs.length := (List.getElem?_eq_some_iff.mp er).1
      have hr : r.nm ∈ rs.map (·.nm) := List.mem_map.mpr ⟨r, List.mem_of_getElem? er, rfl⟩
      have hof : oftF rs r.nm = r.oft := oft_of hu (List.mem_of_getElem? er)
      refine ⟨t, _, rfl, Same.sqt s ht, rfl, ?_⟩
      walk_at "r"
      refine ⟨rfl, ?_⟩
      walk_at "r"
      cases ho : r.oft
      · walk_at "r"
        exact ⟨s, R, eR, by omega, ring_step mR er fun h => by rw [Ring, hof, ho] at h; exact absurd h.1 Bool.false_ne_true⟩
      · walk_at "r"
        refine ⟨a, rs, r.nm, rfl, hO.same s, hu, hc, hz, hr, fun X2 p F s2 hF lF mF => ?_⟩
        walk_at "r"
        refine r_inNm (.inl (SqL.of hF)) ?_
        walk_at "r"
        by_cases hin : r.nm ∈ F
        · rw [decide_eq_true hin]
          walk_at "r"
          refine ⟨_, s2 _ _ eR, by rw [List.length_map]; exact lt_line (by omega), Same.mut (Same.trans s s2) hD, R ++ [r.nm], by rw [upd_same, List.map_append]; rfl, by rw [List.length_append]; simp; omega, ring_add mR er ⟨hof.trans ho, (mF _).mp hin⟩⟩
        · rw [decide_eq_false hin]
          walk_at "r"
          exact ⟨Same.trans s s2, R, s2 _ _ eR, by omega, ring_step mR er fun h => hin ((mF _).mpr h.2)⟩
    · intro X ⟨s, R, eR, lR, mR⟩
      rw [List.length_map, hts] at lR mR
      have mR2 : ∀ s, s ∈ R ↔ s ∈ rs.map (·.nm) ∧ Ring rs s := ring_all mR
      walk_at "r"
      refine ⟨Nat.zero_le _, fun Fo hFo => ?_⟩
      walk_at "r"
      have hFoH : H Fo = none := same_free s hFo
      have nDF : D ≠ Fo := (fresh_ne hFo eR).symm
      have s1 := Same.trans s (same_new hFo (o := .lst []))
      refine ⟨a, rfl, ⟨_, Same.sql s1 hL⟩, for_list (K := K) (a := a) (xs := ts.map V.ref) (fun i σ X => ∃ y z u L, σ = [some (.ref a), some (.ref D), some (.ref Fo), y, z, u, none] ∧ Same H X ∧ X D = some (.lst (R.map fun l => V.str (S l))) ∧ X Fo = some (.lst (L.map fun l => V.str (S l))) ∧ L.length ≤ i ∧ ∀ s, s ∈ L ↔ ∃ q ∈ rs.take i, q.nm = s ∧ Lives rs s) ⟨_, _, _, [], rfl, s1, by rw [upd_ne nDF]; exact eR, upd_same, Nat.le_refl _, fun s => by simp⟩ (fun i σ X _ h => by obtain ⟨_, _, _, _, _, s, _⟩ := h; exact Same.sql s hL) ?_ ?_⟩
      · rintro i x σ X ex ⟨y, z, u, L, rfl, s, eR, eF, lL, mL⟩
        rw [List.getElem?_map] at ex
        obtain ⟨t, et, rfl⟩ := Option.map_eq_some_iff.mp ex
        obtain ⟨r, er, d, ht, hd2⟩ := paired_get hp et
        have hi : i < rs.length := (List.getElem?_eq_some_iff.mp er).1
        have hr : r.nm ∈ rs.map (·.nm) := List.mem_map.mpr ⟨r, List.mem_of_getElem? er, rfl⟩
        refine ⟨t, _, rfl, Same.sqt s ht, rfl, ?_⟩
        walk_at "r"
        refine r_inNm (.inl (SqL.of eR)) ?_
        walk_at "r"
        by_cases hin : r.nm ∈ R
        · rw [decide_eq_true hin]
          walk_at "r"
          refine ⟨_, rfl, .inl ⟨rfl, _, SqL.of eF⟩, ?_⟩
          walk_at "r"
          refine ⟨Fo, _, _, rfl, rfl, eF, by rw [List.length_map]; exact lt_line (by omega), ?_⟩
          walk_at "r"
          exact ⟨_, _, _, L ++ [r.nm], rfl, Same.mut s hFoH, by rw [upd_ne nDF]; exact eR, by rw [upd_same, List.map_append]; rfl, by rw [List.length_append]; simp; omega, ring_add mL er (.inl ((mR2 _).mp hin).2)⟩
        · rw [decide_eq_false hin]
          walk_at "r"
          refine ⟨a, rs, r.nm, rfl, hO.same s, hu, hc, hz, hr, fun X2 p F s2 hF lF mF => ?_⟩
          walk_at "r"
          refine ⟨p, rfl, ⟨_, SqL.of hF⟩, fun D3 hD3 => lc_list (K := K) (a := p) (xs := F.map fun l => V.str (S l)) (fun j X => Same X2 X ∧ X D3 = some (.lst (((F.take j).map fun s => decide (s ∈ R)).map V.bl))) ⟨same_new hD3, upd_same⟩ (fun j X _ h => SqL.of (h.1 _ _ hF)) ?_ ?_⟩
          · rintro j x X3 ex ⟨s3, e3⟩
            rw [List.getElem?_map] at ex
            obtain ⟨l, el, rfl⟩ := Option.map_eq_some_iff.mp ex
            have hj : j < F.length := (List.getElem?_eq_some_iff.mp el).1
            walk_at "r"
            refine ⟨rfl, ?_⟩
            walk_at "r"
            refine r_inNm (.inl (SqL.of (s3 _ _ (s2 _ _ eR)))) ?_
            refine ⟨_, e3, by rw [List.length_map, List.length_map, List.length_take]; exact lt_line (by omega), Same.mut s3 hD3, ?_⟩
            rw [upd_same, take_snoc' el, List.map_append, List.map_append]
            rfl
          · rintro X3 ⟨s3, e3⟩
            rw [List.length_map, List.take_length] at e3
            walk_at "r"
            refine r_anyB e3 ?_
            walk_at "r"
            have eF3 := s3 _ _ (s2 _ _ eF)
            have eR3 := s3 _ _ (s2 _ _ eR)
            have sA := Same.trans (Same.trans s s2) s3
            cases hb : (F.map fun s => decide (s ∈ R)).any id
            · walk_at "r"
              refine ⟨_, _, _, L, rfl, sA, eR3, eF3, by omega, ring_step mL er fun h => ?_⟩
              rcases h with h | ⟨q, h1, h2⟩
              · exact hin ((mR2 _).mpr ⟨hr, h⟩)
              · have hq : q ∈ F := (mF _).mpr h2
                obtain ⟨v, hv, _, e⟩ := h2
                have : (F.map fun s => decide (s ∈ R)).any id = true := List.any_eq_true.mpr ⟨true, List.mem_map.mpr ⟨q, hq, decide_eq_true ((mR2 _).mpr ⟨e ▸ runF_mem hc hv hr, h1⟩)⟩, rfl⟩
                rw [hb] at this
                exact Bool.false_ne_true this
            · walk_at "r"
              refine ⟨_, rfl, .inl ⟨rfl, _, SqL.of eF3⟩, ?_⟩
              walk_at "r"
              refine ⟨Fo, _, _, rfl, rfl, eF3, by rw [List.length_map]; exact lt_line (by omega), ?_⟩
              walk_at "r"
              refine ⟨_, _, _, L ++ [r.nm], rfl, Same.mut sA hFoH, by rw [upd_ne nDF]; exact eR3, by rw [upd_same, List.map_append]; rfl, by rw [List.length_append]; simp; omega, ring_add mL er (.inr ?_)⟩
              obtain ⟨b, h1, h2⟩ := List.any_eq_true.mp hb
              obtain ⟨q, h3, rfl⟩ := List.mem_map.mp h1
              exact ⟨q, ((mR2 _).mp (of_decide_eq_true h2)).2, (mF _).mp h3⟩
      · rintro σ X ⟨y, z, u, L, rfl, s, eR, eF, lL, mL⟩
        rw [List.length_map, hts] at lL mL
        walk_at "r"
        exact q _ _ L s eF (by omega) (ring_all mL)

def sp_Lwords (K : PySem.W.Frag) : Sp := fun vs H Q _ => ∃ n : Nat, vs = [.int n] ∧ n ≤ 6 ∧ ∀ H' p, Same H H' → H' p = some (.lst ((wordsF n).map fun w => V.str (S w))) → Q (.ref p) H'
theorem ok_Lwords (T : Txt K mg) : Ok P w K mg base CX0 (1) "_law_words" s_Lwords ["many"] (sp_Lwords K) := by
  obtain ⟨fd, D⟩ := T.d_Lwords
  refine ⟨⟨_, fd, T.g__law_words, D, D.bindsN (fun _ _ _ _ _ _ us hl => match us, hl with | [_], _ => rfl), ?_⟩⟩
  refine D.ok sc_Lwords (fun vs H Q E h => ?_) (fun cdv A outer s H vs Q E hr h => ?_)
  · obtain ⟨n, rfl, hn, q⟩ := h
    rfl
  · obtain ⟨n, rfl, hn, q⟩ := h
    refine ⟨_, PSs.nox (pss_cons (ps_set (i := 1) sc_Lwords.nd rfl (by first | exact Or.inl rfl | exact Or.inr rfl) (pe_lst (pa_cons (pe_strS [] (by rfl)) pa_nil)))
      (pss_cons (ps_for PassesOwn.never rfl (pi_range1 (by rfl) T.z_range (pa_cons (pv 0) pa_nil)) (pg_name (i := 2) sc_Lwords.nd rfl (by first | exact Or.inl rfl | exact Or.inr rfl))
        (pss_cons (ps_set (i := 3) sc_Lwords.nd rfl (by first | exact Or.inl rfl | exact Or.inr rfl) (pe_lst pa_nil))
      (pss_cons (ps_for PassesOwn.never rfl (pi_list (pv 1)) (pg_name (i := 4) sc_Lwords.nd rfl (by first | exact Or.inl rfl | exact Or.inr rfl))
        (pss_one (ps_expr (pe_bm PySem.F.plainAttrs_list PySem.F.slot_list_extend PySem.F.type_list_extend mt_extend (pv 3) (pa_cons (pe_lc (own := [("letter", 5)]) (g := gName 5) (tt := tYes) rfl sc_Lwords.nd (pi_str (pe_strS [102, 110, 115] (by rfl))) (blkOk_by (N := ["many", "found", "lap", "later", "word", "letter"]) (sc := defScope s_Lwords) (by decide +kernel)) (fun _ _ _ _ _ => (pg_name (i := 5) sc_Lwords.nd rfl (by first | exact Or.inl rfl | exact Or.inr rfl))) (fun _ _ _ _ _ => pts_nil) (fun _ _ _ _ _ => (pe_op o_addS (pv 4) (pv 5)))) pa_nil)))))
      (pss_one (ps_set (i := 1) sc_Lwords.nd rfl (by first | exact Or.inl rfl | exact Or.inr rfl) (pv 3))))))
      (pss_one (ps_ret (pv 1))))), ?_⟩
    walk_at "r"
    refine ⟨by show 1 ≤ sizeLine; decide, fun p0 hp0 => ?_⟩
    walk_at "r"
    refine ⟨_, rfl, by omega, by omega, for_range (n := n) (fun i σ H' => ∃ p y2 y3 y4 y5, σ = [some (.int n), some (.ref p), y2, y3, y4, y5] ∧ Same H H' ∧ H' p = some (.lst ((wordsF i).map fun w => V.str (S w)))) ⟨p0, _, _, _, _, rfl, same_new hp0, upd_same⟩ ?_ ?_⟩
    · rintro i σ G hi ⟨p, y2, y3, y4, y5, rfl, e, hp⟩
      have hlen : (wordsF i).length ≤ 729 := by rw [wordsF_len]; exact (Nat.pow_le_pow_right (by decide) (by omega) : 3 ^ i ≤ 3 ^ 6)
      walk_at "r"
      refine ⟨by show 0 ≤ sizeLine; decide, fun q0 hq0 => ?_⟩
      walk_at "r"
      have eq0 := same_new hq0 (o := .lst [])
      have hpq : p ≠ q0 := ne_of_none hp hq0
      refine ⟨p, rfl, ⟨_, SqL.of (eq0 _ _ hp)⟩, for_L (xs := (wordsF i).map fun w => V.str (S w)) (fun k σ H' => ∃ y4 y5, σ = [some (.int n), some (.ref p), some (.int (0 + (i : Int))), some (.ref q0), y4, y5] ∧ Same G H' ∧ H' q0 = some (.lst ((((wordsF i).take k).flatMap fun w => [w ++ [102], w ++ [110], w ++ [115]]).map fun w => V.str (S w)))) ⟨_, _, rfl, eq0, by rw [upd_same]; rfl⟩ (fun k σ H' ⟨_, _, _, e', _⟩ => SqL.of (e' _ _ hp)) ?_ ?_⟩
      · rintro k x σ H' hx ⟨y4, y5, rfl, e', hq⟩
        rw [List.getElem?_map] at hx
        obtain ⟨w, hw, rfl⟩ := Option.map_eq_some_iff.mp hx
        obtain ⟨ww, wl⟩ := wordsF_mem.mp (List.mem_of_getElem? hw)
        have hk : k < (wordsF i).length := (List.getElem?_eq_some_iff.mp hw).1
        walk_at "r"
        refine ⟨_, rfl, .inl ⟨rfl, _, SqL.of hq⟩, ?_⟩
        walk_at "r"
        refine ⟨_, rfl, fun D hD => lcS_map (l := [102, 110, 115]) (fun c => V.str (S (w ++ [c]))) hD (by decide) (fun j c H2 hc e2 R hR => ?_) fun H2 e2 hacc => ?_⟩
        · walk_at "r"
          refine ⟨rfl, ?_⟩
          walk_at "r"
          refine r_addS (by simp; omega) ?_
          exact hR
        · walk_at "r"
          have hq2 := e2 _ _ hq
          refine ⟨q0, D, _, _, rfl, rfl, hq2, hacc, ?_, ?_⟩
          · rw [List.length_map, List.length_flatMap]
            simp only [List.length_cons, List.length_nil, List.length_map]
            rw [List.map_const', List.sum_replicate_nat, List.length_take]
            have : min k (wordsF i).length * 3 + 3 ≤ 10000 := by omega
            exact Nat.le_trans this (by decide)
          walk_at "r"
          refine ⟨_, _, rfl, ?_, ?_⟩
          · exact fun b o hb => by
              rw [upd_ne (fun z => by rw [z] at hb; rw [hq0] at hb; cases hb)]
              exact e2 _ _ (e' _ _ hb)
          · rw [upd_same, List.take_add_one, hw]
            simp
      · rintro σ H' ⟨y4, y5, rfl, e', hq⟩
        walk_at "r"
        rw [List.length_map, List.take_length] at hq
        exact ⟨q0, _, _, _, _, rfl, e.trans e', hq⟩
    · rintro σ G ⟨p, y2, y3, y4, y5, rfl, e, hp⟩
      walk_at "r"
      exact q _ p e hp
def sp_Lbarred (K : PySem.W.Frag) : Sp := fun vs H Q _ => ∃ (a : Addr) (rs : List Tf.Row3) (n : Nat), vs = [.ref a, .int n] ∧ OwnAt K H a rs ∧ LawG rs ∧ rs.length ≤ 6 ∧ n ≤ 6 ∧ ∀ H' p, Same H H' → H' p = some (.lst ((barF rs n).map fun w => V.str (S w))) → Q (.ref p) H'
theorem ok_Lbarred (T : Txt K mg) : Ok P w K mg base CX0 (4) "_law_barred" s_Lbarred ["own", "many"] (sp_Lbarred K) := by
  obtain ⟨fd, D⟩ := T.d_Lbarred
  refine ⟨⟨_, fd, T.g__law_barred, D, D.bindsN (fun _ _ _ _ _ _ us hl => match us, hl with | [_, _], _ => rfl), ?_⟩⟩
  refine D.ok sc_Lbarred (fun vs H Q E h => ?_) (fun cdv A outer s H vs Q E hr h => ?_)
  · obtain ⟨a, rs, n, rfl, hO, hg, h6, hn, q⟩ := h
    rfl
  · obtain ⟨a, rs, n, rfl, hO, hg, h6, hn, q⟩ := h
    have F_Llaw_living := ok_Llaw_living (P := P) (w := w) (K := K) (mg := mg) (base := base) T
    have F_Lwords := ok_Lwords (P := P) (w := w) (K := K) (mg := mg) (base := base) T
    have F_Llaw_after := ok_Llaw_after (P := P) (w := w) (K := K) (mg := mg) (base := base) T
    refine ⟨_, PSs.nox (pss_cons (ps_set (i := 2) sc_Lbarred.nd rfl (by first | exact Or.inl rfl | exact Or.inr rfl) (pe_cl F_Llaw_living hr (by rfl) pass0 (pa_cons (pv 0) pa_nil)))
      (pss_one (ps_ret (pe_lc (own := [("word", 3)]) (g := gName 3) rfl sc_Lbarred.nd (pi_list (pe_cl F_Lwords hr (by rfl) pass0 (pa_cons (pv 1) pa_nil))) (blkOk_by (N := ["own", "many", "living_v", "word"]) (sc := defScope s_Lbarred) (by decide +kernel)) (fun _ _ _ _ _ => (pg_name (i := 3) sc_Lbarred.nd rfl (by first | exact Or.inl rfl | exact Or.inr rfl))) (fun _ _ _ _ _ => (pts_one (pt_cmpR (show OpR _ _ (rIn K true) from op_notIn_seq) (pe_cl F_Llaw_after hr (by rfl) pass0 (pa_cons (pv 0) (pa_cons (pv 3) pa_nil))) (pv 2) (by rfl)))) (fun _ _ _ _ _ => (pv 3)))))), ?_⟩
    walk_at "r"
    refine ⟨a, rs, rfl, hO, hg.u, hg.cl, by omega, fun H1 lv L s1 hL lL mL => ?_⟩
    walk_at "r"
    refine ⟨n, rfl, hn, fun H2 p s2 hp => ?_⟩
    have s12 := Same.trans s1 s2
    have hlen : (wordsF n).length ≤ 729 := by rw [wordsF_len]; exact (Nat.pow_le_pow_right (by decide) (by omega) : 3 ^ n ≤ 3 ^ 6)
    obtain ⟨go, st⟩ := itl_go (SqL.of (K := K) hp) (n := (wordsF n).length) (by simp)
    refine ⟨p, rfl, ⟨_, SqL.of hp⟩, fun D hD => lc_filt (J := Itl K p) (ls := wordsF n) (fun w => V.str (S w)) (fun w => deadB rs (runF rs (firstOf rs) w)) hD (by omega) go st ?_ ?_⟩
    · rintro i l Y' Y v el sY ⟨rfl, fy⟩ R hR
      have ev := fy _ (SqL.of (sY _ _ hp))
      rw [List.getElem?_map, el] at ev
      obtain rfl : V.str (S l) = v := Option.some.inj ev
      obtain ⟨hw, hl⟩ := wordsF_mem.mp (List.mem_of_getElem? el)
      have sB := Same.trans s12 sY
      walk_at "r"
      refine ⟨rfl, ?_⟩
      walk_at "r"
      refine ⟨a, rs, l, rfl, hO.same sB, hg.u, by omega, hg.cl, hg.ne, hw, fun Z sZ => ?_⟩
      walk_at "r"
      refine r_notInNm (.inl (SqL.of (Same.trans (Same.trans s2 sY) sZ _ _ hL))) ?_
      have hm := runF_mem hg.cl hw (first_mem hg.ne)
      walk_at "r"
      exact hR _ _ _ (by rw [Bool.eq_iff_iff, deadB_iff, Bool.not_eq_true', decide_eq_false_iff_not, mL]; exact ⟨fun z y => z ⟨hm, y⟩, fun z y => z y.2⟩) (fun R' h => by walk_at "r"; exact h) sZ
    · intro Y sY eY
      exact q _ D (Same.trans s12 sY) eY
def sp_Lleast (K : PySem.W.Frag) : Sp := fun vs H Q _ => ∃ (a : Addr) (rs : List Tf.Row3), vs = [.ref a] ∧ OwnAt K H a rs ∧ LawG rs ∧ rs.length ≤ 5 ∧ ∀ H' o, Same H H' → LeastW rs o → Q (wordV o) H'
theorem ok_Lleast (T : Txt K mg) : Ok P w K mg base CX0 (5) "_law_least" s_Lleast ["own"] (sp_Lleast K) := by
  obtain ⟨fd, D⟩ := T.d_Lleast
  refine ⟨⟨_, fd, T.g__law_least, D, D.bindsN (fun _ _ _ _ _ _ us hl => match us, hl with | [_], _ => rfl), ?_⟩⟩
  refine D.ok sc_Lleast (fun vs H Q E h => ?_) (fun cdv A outer s H vs Q E hr h => ?_)
  · obtain ⟨a, rs, rfl, hO, hg, h5, q⟩ := h
    rfl
  · obtain ⟨a, rs, rfl, hO, hg, h5, q⟩ := h
    have F_Lbarred := ok_Lbarred (P := P) (w := w) (K := K) (mg := mg) (base := base) T
    refine ⟨_, PSs.nox (pss_cons (ps_for PassesOwn.never rfl (pi_range1 (by rfl) T.z_range (pa_cons (pe_op op_add (pe_callB k_lnQ (by rfl) T.z_len (by decide +kernel) (pa_cons (pv 0) pa_nil)) pe_int) pa_nil)) (pg_name (i := 1) sc_Lleast.nd rfl (by first | exact Or.inl rfl | exact Or.inr rfl))
        (pss_cons (ps_set (i := 2) sc_Lleast.nd rfl (by first | exact Or.inl rfl | exact Or.inr rfl) (pe_cl F_Lbarred hr (by rfl) pass0 (pa_cons (pv 0) (pa_cons (pv 1) pa_nil))))
      (pss_one (ps_if (pt_cmpR (op_neD hr.units) (pv 2) (pe_lst pa_nil) (nomark _))
        (pss_one (ps_ret (pe_ix ix_list (pv 2) pe_int (fun _ _ => rfl))))
        pss_nil))))
      (pss_one (ps_ret pe_non))), ?_⟩
    walk_at "r"
    obtain ⟨ts, hL, hp⟩ := id hO
    have hts : ts.length = rs.length := hp.length.symm
    refine r_lnL hL ?_
    walk_at "r"
    rw [List.length_map, hts]
    refine ⟨((rs.length : Int) + 1), rfl, by omega, by omega, ?_⟩
    rw [show ((rs.length : Int) + 1).toNat = rs.length + 1 by omega]
    refine for_J (n := rs.length + 1) (fun i σ X => ∃ y1 y2, σ = [some (.ref a), y1, y2] ∧ Same H X ∧ ∀ m, m < i → barF rs m = []) ⟨_, _, rfl, Same.refl _, fun m hm => by omega⟩ (fun i σ X hi _ => hi) (fun σ X _ => Nat.le_refl _) ?_ ?_
    · rintro i v σ X Y hi ⟨y1, y2, rfl, sX, hb⟩ ⟨rfl, rfl⟩
      walk_at "r"
      refine ⟨a, rs, i, by rw [Int.zero_add]; rfl, hO.same sX, hg, by omega, by omega, fun H1 p s1 hp1 => ?_⟩
      walk_at "r"
      refine ⟨Nat.zero_le _, fun p0 hp0 => ?_⟩
      have s2 := same_new hp0 (o := .lst [])
      have e0 : (upd H1 p0 (.lst [])) p0 = some (.lst []) := upd_same
      have e1 := s2 _ _ hp1
      have sB := Same.trans (Same.trans sX s1) s2
      generalize upd H1 p0 (.lst []) = H2 at s2 e0 e1 sB ⊢
      refine r_neS (ks := barF rs i) (fun k hk => (wordsF_mem.mp (List.mem_filter.mp hk).1).1) e1 e0 ?_
      cases hf : barF rs i with
      | nil =>
        rw [show (!([] : List (List Nat)).isEmpty) = false from rfl]
        walk_at "r"
        refine ⟨_, _, rfl, sB, fun m hm => ?_⟩
        by_cases h : m = i
        · rw [h]; exact hf
        · exact hb m (by omega)
      | cons w r =>
        rw [show (!(w :: r : List (List Nat)).isEmpty) = true from rfl]
        walk_at "r"
        rw [hf] at e1
        refine r_ixL (SqL.of e1) (atI_nat (j := 0) rfl) ?_
        have hw : w ∈ barF rs i := by rw [hf]; exact List.mem_cons_self ..
        have hl : w.length = i := (wordsF_mem.mp (List.mem_filter.mp hw).1).2
        exact q _ (some w) sB ⟨(fun z => by cases z), fun x hx => by cases hx; rw [hl]; exact ⟨⟨r, hf⟩, hb, by omega⟩⟩
    · rintro σ X ⟨y1, y2, rfl, sX, hb⟩
      walk_at "r"
      exact q _ none sX ⟨(fun _ n hn => hb n (by omega)), (fun w z => by cases z)⟩

def sp_LisN (n : Nat) (K : PySem.W.Frag) : Sp := fun vs H Q _ => ∃ x y : V, vs = [x, y] ∧ Eqv K H false n x y ∧ ∀ H', Same H H' → Q (.bl true) H'
theorem ok_Lis0 (T : Txt K mg) : Ok P w K mg base CX0 (1) "_law_is" s_Lis ["told", "due"] (sp_LisN 0 K) := by
  obtain ⟨fd, D⟩ := T.d_Lis
  refine ⟨⟨_, fd, T.g__law_is, D, D.bindsN (fun _ _ _ _ _ _ us hl => match us, hl with | [_, _], _ => rfl), ?_⟩⟩
  refine D.ok sc_Lis (fun vs H Q E h => ?_) (fun cdv A outer s H vs Q E hr h => ?_)
  · obtain ⟨x, y, rfl, h, q⟩ := h
    rfl
  · obtain ⟨x, y, rfl, h, q⟩ := h
    refine ⟨_, PSs.nox (pss_cons (ps_if (pt_val (pe_callB call_isi (by rfl) T.z_isinstance (by decide +kernel) (pa_cons (pv 1) (pa_cons (pe_bltn (v := .ty "tuple") (by rfl) T.z_tuple (by decide +kernel) rfl) pa_nil))))
        (pss_cons ps_never
      (pss_one ps_never))
        pss_nil)
      (pss_cons (ps_if (pt_val (pe_callB call_isi (by rfl) T.z_isinstance (by decide +kernel) (pa_cons (pv 1) (pa_cons (pe_bltn (v := .ty "int") (by rfl) T.z_int (by decide +kernel) rfl) pa_nil))))
        (pss_one (ps_ret (pe_and (pe_callB call_isi (by rfl) T.z_isinstance (by decide +kernel) (pa_cons (pv 0) (pa_cons (pe_bltn (v := .ty "int") (by rfl) T.z_int (by decide +kernel) rfl) pa_nil))) (pe_and (pe_not (pe_callB call_isi (by rfl) T.z_isinstance (by decide +kernel) (pa_cons (pv 0) (pa_cons (pe_bltn (v := .ty "bool") (by rfl) T.z_bool (by decide +kernel) rfl) pa_nil)))) (pe_one (pe_cmpR op_eq (pv 0) (pv 1) (nomark _)))))))
        pss_nil)
      (pss_one (ps_ret (pe_ifExp (pt_val (pe_callB call_isi (by rfl) T.z_isinstance (by decide +kernel) (pa_cons (pv 1) (pa_cons (pe_bltn (v := .ty "str") (by rfl) T.z_str (by decide +kernel) rfl) pa_nil)))) (pe_and (pe_callB call_isi (by rfl) T.z_isinstance (by decide +kernel) (pa_cons (pv 0) (pa_cons (pe_bltn (v := .ty "str") (by rfl) T.z_str (by decide +kernel) rfl) pa_nil))) (pe_one (pe_cmpR op_eq (pv 0) (pv 1) (nomark _)))) (pe_cmpR o_isN (pv 0) pe_non (nomark _))))))), ?_⟩
    rcases h with ⟨i, rfl, rfl⟩ | ⟨l, rfl, rfl⟩ | ⟨rfl, rfl⟩ | ⟨hb, _⟩
    · walk_at "r"
      rw [decide_eq_true rfl]
      exact q _ (Same.refl _)
    · walk_at "r"
      rw [decide_eq_true rfl]
      exact q _ (Same.refl _)
    · walk_at "r"
      rw [decide_eq_true rfl]
      exact q _ (Same.refl _)
    · cases hb
theorem ok_LisS {m : Nat} (F_Lis : Ok P w K mg base CX0 (m + 1) "_law_is" s_Lis ["told", "due"] (sp_LisN m K)) (T : Txt K mg) : Ok P w K mg base CX0 (m + 1 + 1) "_law_is" s_Lis ["told", "due"] (sp_LisN (m + 1) K) := by
  obtain ⟨fd, D⟩ := T.d_Lis
  refine ⟨⟨_, fd, T.g__law_is, D, D.bindsN (fun _ _ _ _ _ _ us hl => match us, hl with | [_, _], _ => rfl), ?_⟩⟩
  refine D.ok sc_Lis (fun vs H Q E h => ?_) (fun cdv A outer s H vs Q E hr h => ?_)
  · obtain ⟨x, y, rfl, h, q⟩ := h
    rfl
  · obtain ⟨x, y, rfl, h, q⟩ := h
    refine ⟨_, PSs.nox (pss_cons (ps_if (pt_val (pe_callB call_isi (by rfl) T.z_isinstance (by decide +kernel) (pa_cons (pv 1) (pa_cons (pe_bltn (v := .ty "tuple") (by rfl) T.z_tuple (by decide +kernel) rfl) pa_nil))))
        (pss_cons (ps_set (i := 2) sc_Lis.nd rfl (by first | exact Or.inl rfl | exact Or.inr rfl) (pe_and (pe_callB call_isi (by rfl) T.z_isinstance (by decide +kernel) (pa_cons (pv 0) (pa_cons (pe_bltn (v := .ty "tuple") (by rfl) T.z_tuple (by decide +kernel) rfl) pa_nil))) (pe_one (pe_cmpR op_eq (pe_callB k_lnQ (by rfl) T.z_len (by decide +kernel) (pa_cons (pv 0) pa_nil)) (pe_callB k_lnQ (by rfl) T.z_len (by decide +kernel) (pa_cons (pv 1) pa_nil)) (nomark _)))))
      (pss_one (ps_ret (pe_and (pv 2) (pe_one (pe_callB (cr_all rfl) (by rfl) T.z_all (by decide +kernel) (pa_cons (pe_lc (own := [("one", 3), ("other", 4)]) (g := gTup K 2 (gCons (gName 3) (gCons (gName 4) gNil))) (tt := tYes) rfl sc_Lis.nd (RZ.pi_zipA (by rfl) T.z_zip (pa_cons (pv 0) (pa_cons (pv 1) pa_nil))) (blkOk_by (N := ["told", "due", "is_fit", "one", "other"]) (sc := defScope s_Lis) (by decide +kernel)) (fun _ _ _ _ _ => (pg_tup rfl (pgs_cons (pg_name (i := 3) sc_Lis.nd rfl (by first | exact Or.inl rfl | exact Or.inr rfl)) (pgs_cons (pg_name (i := 4) sc_Lis.nd rfl (by first | exact Or.inl rfl | exact Or.inr rfl)) pgs_nil)))) (fun _ _ _ _ _ => pts_nil) (fun _ _ _ _ _ => (pe_cl F_Lis hr (by rfl) pass0 (pa_cons (pv 3) (pa_cons (pv 4) pa_nil)) (hj := Nat.le_refl _)))) pa_nil)))))))
        pss_nil)
      (pss_cons (ps_if (pt_val (pe_callB call_isi (by rfl) T.z_isinstance (by decide +kernel) (pa_cons (pv 1) (pa_cons (pe_bltn (v := .ty "int") (by rfl) T.z_int (by decide +kernel) rfl) pa_nil))))
        (pss_one (ps_ret (pe_and (pe_callB call_isi (by rfl) T.z_isinstance (by decide +kernel) (pa_cons (pv 0) (pa_cons (pe_bltn (v := .ty "int") (by rfl) T.z_int (by decide +kernel) rfl) pa_nil))) (pe_and (pe_not (pe_callB call_isi (by rfl) T.z_isinstance (by decide +kernel) (pa_cons (pv 0) (pa_cons (pe_bltn (v := .ty "bool") (by rfl) T.z_bool (by decide +kernel) rfl) pa_nil)))) (pe_one (pe_cmpR op_eq (pv 0) (pv 1) (nomark _)))))))
        pss_nil)
      (pss_one (ps_ret (pe_ifExp (pt_val (pe_callB call_isi (by rfl) T.z_isinstance (by decide +kernel) (pa_cons (pv 1) (pa_cons (pe_bltn (v := .ty "str") (by rfl) T.z_str (by decide +kernel) rfl) pa_nil)))) (pe_and (pe_callB call_isi (by rfl) T.z_isinstance (by decide +kernel) (pa_cons (pv 0) (pa_cons (pe_bltn (v := .ty "str") (by rfl) T.z_str (by decide +kernel) rfl) pa_nil))) (pe_one (pe_cmpR op_eq (pv 0) (pv 1) (nomark _)))) (pe_cmpR o_isN (pv 0) pe_non (nomark _))))))), ?_⟩
    rcases h with h | ⟨a, b, xs, ys, rfl, rfl, ha, hb, hl, hz, hi⟩
    · rcases h with ⟨i, rfl, rfl⟩ | ⟨l, rfl, rfl⟩ | ⟨rfl, rfl⟩ | ⟨hb, _⟩
      · walk_at "r"
        rw [decide_eq_true rfl]
        exact q _ (Same.refl _)
      · walk_at "r"
        rw [decide_eq_true rfl]
        exact q _ (Same.refl _)
      · walk_at "r"
        rw [decide_eq_true rfl]
        exact q _ (Same.refl _)
      · cases hb
    · walk_at "r"
      refine r_isiT hb (b := true) (by decide +kernel) ?_
      walk_at "r"
      refine r_isiT ha (b := true) (by decide +kernel) ?_
      walk_at "r"
      refine r_lnU ha ?_
      walk_at "r"
      refine r_lnU hb ?_
      walk_at "r"
      refine r_yesD (by rw [hl]) ?_
      walk_at "r"
      refine ⟨a, b, xs, ys, rfl, .inr ⟨ha, hb, fun D hD => ?_⟩⟩
      refine lc_acc (n := xs.length) (fun _ H' => Same H H') (fun _ v => v = .bl true) hz (same_new hD) (fun i H' acc acc' e _ => Same.mut e hD) (fun i H' hi' e => ?_) (fun H' e => ?_) ?_ ?_
      · obtain ⟨x, hx⟩ : ∃ x, xs[i]? = some x := ⟨xs[i], List.getElem?_eq_getElem hi'⟩
        obtain ⟨y, hy⟩ : ∃ y, ys[i]? = some y := ⟨ys[i], List.getElem?_eq_getElem (by omega)⟩
        exact ⟨xs, ys, x, y, Same.sqt e ha, Same.sqt e hb, hx, hy⟩
      · exact ⟨xs, ys, Same.sqt e ha, Same.sqt e hb, .inl (Nat.le_refl _)⟩
      · rintro i v H' H2 acc hi' e hacc ⟨T2, x, y, rfl, hT, rfl, f1, f2⟩ R hR
        have ex := f1 _ (Same.sqt e ha)
        have ey := f2 _ (Same.sqt e hb)
        refine r_gTup (SqT.of upd_same) rfl ?_
        walk_at "r"
        refine ⟨rfl, ?_⟩
        walk_at "r"
        have e2 := e.trans (same_new hT (o := .tup [x, y]))
        exact ⟨x, y, rfl, (hi i x y ex ey).same e2, fun H4 e4 => hR _ _ (e4 _ _ (same_new hT _ _ hacc)) rfl (e2.trans e4)⟩
      · intro H' acc hl2 hv hacc e
        walk_at "r"
        rw [all_true hl2 hv] at hacc
        exact r_allT hacc (q _ e)
theorem ok_Lis (T : Txt K mg) : ∀ n, Ok P w K mg base CX0 (n + 1) "_law_is" s_Lis ["told", "due"] (sp_LisN n K)
  | 0 => ok_Lis0 T
  | n + 1 => ok_LisS (ok_Lis T n) T

def sp_Lis_int (K : PySem.W.Frag) : Sp := fun vs H Q _ => ∃ v lo hi : Int, vs = [.int v, .int lo, .int hi] ∧ Q (.bl (decide (lo ≤ v ∧ v ≤ hi))) H
theorem ok_Lis_int (T : Txt K mg) : Ok P w K mg base CX0 (1) "_law_is_int" s_Lis_int ["value", "low", "high"] (sp_Lis_int K) := by
  obtain ⟨fd, D⟩ := T.d_Lis_int
  refine ⟨⟨_, fd, T.g__law_is_int, D, D.bindsN (fun _ _ _ _ _ _ us hl => match us, hl with | [_, _, _], _ => rfl), ?_⟩⟩
  refine D.ok sc_Lis_int (fun vs H Q E h => ?_) (fun cdv A outer s H vs Q E hr h => ?_)
  · obtain ⟨v, lo, hi, rfl, q⟩ := h
    rfl
  · obtain ⟨v, lo, hi, rfl, q⟩ := h
    refine ⟨_, PSs.nox (pss_one (ps_ret (pe_and (pe_callB call_isi (by rfl) T.z_isinstance (by decide +kernel) (pa_cons (pv 0) (pa_cons (pe_bltn (v := .ty "int") (by rfl) T.z_int (by decide +kernel) rfl) pa_nil))) (pe_and (pe_not (pe_callB call_isi (by rfl) T.z_isinstance (by decide +kernel) (pa_cons (pv 0) (pa_cons (pe_bltn (v := .ty "bool") (by rfl) T.z_bool (by decide +kernel) rfl) pa_nil)))) (pe_one (pe_chain op_le op_le (pv 1) (pv 0) (pv 2))))))), ?_⟩
    walk_at "r"
    refine r_dec (fun h => ?_) (fun h => ?_)
    · walk_at "r"
      rw [show decide (v ≤ hi) = decide (lo ≤ v ∧ v ≤ hi) by simp [h]]
      exact q
    · rw [show decide (lo ≤ v ∧ v ≤ hi) = false by simp [h]] at q
      exact q
def sp_Lheard_numbers (K : PySem.W.Frag) : Sp := fun vs H Q _ => ∃ l : List Nat, vs = [.str (S l)] ∧ Wd l ∧ l.length ≤ 1000000 ∧ ∀ H' t, Same H H' → H t = none → H' t = some (.tup [.int (nu (pl l)).1, .int (nu (pl l)).2]) → Q (.ref t) H'
theorem ok_Lheard_numbers (T : Txt K mg) : Ok P w K mg base CX0 (1) "_law_heard_numbers" s_Lheard_numbers ["word"] (sp_Lheard_numbers K) := by
  obtain ⟨fd, D⟩ := T.d_Lheard_numbers
  refine ⟨⟨_, fd, T.g__law_heard_numbers, D, D.bindsN (fun _ _ _ _ _ _ us hl => match us, hl with | [_], _ => rfl), ?_⟩⟩
  refine D.ok sc_Lheard_numbers (fun vs H Q E h => ?_) (fun cdv A outer s H vs Q E hr h => ?_)
  · obtain ⟨l, rfl, hw, hl, q⟩ := h
    rfl
  · obtain ⟨l, rfl, hw, hl, q⟩ := h
    refine ⟨_, PSs.nox (pss_cons (ps_asg (pe_tup (pa_cons pe_int (pa_cons pe_int pa_nil))) (pg_tup rfl (pgs_cons (pg_name (i := 2) sc_Lheard_numbers.nd rfl (by first | exact Or.inl rfl | exact Or.inr rfl)) (pgs_cons (pg_name (i := 3) sc_Lheard_numbers.nd rfl (by first | exact Or.inl rfl | exact Or.inr rfl)) pgs_nil))))
      (pss_cons (ps_for PassesOwn.never rfl (pi_str (pv 0)) (pg_name (i := 1) sc_Lheard_numbers.nd rfl (by first | exact Or.inl rfl | exact Or.inr rfl))
        (pss_cons (ps_set (i := 4) sc_Lheard_numbers.nd rfl (by first | exact Or.inl rfl | exact Or.inr rfl) (pe_tup (pa_cons (pv 2) (pa_cons (pv 3) pa_nil))))
      (pss_cons (ps_set (i := 2) sc_Lheard_numbers.nd rfl (by first | exact Or.inl rfl | exact Or.inr rfl) (pe_ifExp (pt_cmpR op_eq (pv 1) (pe_strS [115] (by rfl)) (nomark _)) (pe_op op_mul pe_int (pv 2)) (pe_op op_add (pv 2) (pe_op op_mul pe_int (pe_ix ix_tup (pv 4) pe_int (fun _ _ => rfl))))))
      (pss_one (ps_set (i := 3) sc_Lheard_numbers.nd rfl (by first | exact Or.inl rfl | exact Or.inr rfl) (pe_ifExp (pt_cmpR op_eq (pv 1) (pe_strS [102] (by rfl)) (nomark _)) (pe_op op_mul pe_int (pv 3)) (pe_op op_add (pv 3) (pe_op op_mul pe_int (pe_ix ix_tup (pv 4) pe_int (fun _ _ => rfl))))))))))
      (pss_one (ps_ret (pe_tup (pa_cons (pv 2) (pa_cons (pv 3) pa_nil))))))), ?_⟩
    walk_at "r"
    refine ⟨by show 2 ≤ sizeLine; decide, fun p hp => ?_⟩
    refine r_gTup (SqT.of upd_same) rfl ?_
    walk_at "r"
    refine ⟨_, rfl, for_S (l := l) (fun i σ H' => ∃ y z, σ = [some (.str (S l)), y, some (.int (nu (pl (l.take i))).1), some (.int (nu (pl (l.take i))).2), z] ∧ Same H H') ⟨_, _, rfl, same_new hp⟩ ?_ ?_⟩
    · rintro i c σ H' e ⟨y, z, rfl, e1⟩
      have hc := hw.get e
      have hst := hst_nu (pl (l.take i)) hc
      rw [← pl_snoc, ← take_snoc e] at hst
      generalize nu (pl (l.take i)) = ab at hst ⊢
      obtain ⟨a, b⟩ := ab
      walk_at "r"
      refine ⟨by show 2 ≤ sizeLine; decide, fun t ht => ?_⟩
      have e2 := e1.trans (same_new ht (o := .tup [.int a, .int b]))
      have ht2 : SqT K (upd H' t (.tup [.int a, .int b])) t [.int a, .int b] := SqT.of upd_same
      generalize upd H' t (.tup [.int a, .int b]) = H2 at e2 ht2 ⊢
      walk_at "rs"
      refine r_cut (fun x H3 => x = .int (if c = 115 then 3 * a else a + 2 * b) ∧ H3 = H2) ?_ fun R fin => ?_
      · rintro x H3 ⟨rfl, rfl⟩
        walk_at "rs"
        refine r_cut (fun x H4 => x = .int (if c = 102 then 3 * b else b + 2 * a) ∧ H4 = H3) ?_ fun R fin => ?_
        · rintro x H4 ⟨rfl, rfl⟩
          walk_at "r"
          exact ⟨some (.str (S [c])), some (.ref t), by rw [← hst]; rfl, e2⟩
        · walk_at "r"
          refine r_dec (fun h => ?_) (fun h => ?_)
          · have hc2 : c = 102 := by simpa using S_iff.mp h
            walk_at "r"
            refine r_I (.inl ⟨by decide, by decide⟩) ?_
            exact fin _ _ ⟨by rw [if_pos hc2], rfl⟩
          · have hc2 : ¬ c = 102 := fun z => h (by rw [z])
            walk_at "r"
            refine r_ixT ht2 rfl ?_
            refine r_I (.inl ⟨by decide, by decide⟩) ?_
            walk_at "r"
            exact fin _ _ ⟨by rw [if_neg hc2], rfl⟩
      · walk_at "r"
        refine r_dec (fun h => ?_) (fun h => ?_)
        · have hc2 : c = 115 := by simpa using S_iff.mp h
          walk_at "r"
          refine r_I (.inl ⟨by decide, by decide⟩) ?_
          exact fin _ _ ⟨by rw [if_pos hc2], rfl⟩
        · have hc2 : ¬ c = 115 := fun z => h (by rw [z])
          walk_at "r"
          refine r_ixT ht2 rfl ?_
          refine r_I (.inl ⟨by decide, by decide⟩) ?_
          walk_at "r"
          exact fin _ _ ⟨by rw [if_neg hc2], rfl⟩
    · rintro σ H' ⟨y, z, rfl, e1⟩
      rw [List.take_length]
      walk_at "r"
      exact ⟨by show 2 ≤ sizeLine; decide, fun t ht => q _ t (e1.trans (same_new ht)) (e1.free ht) upd_same⟩
def sp_Lplace (K : PySem.W.Frag) : Sp := fun vs H Q _ => ∃ l : List Nat, vs = [.str (S l)] ∧ Wd l ∧ l.length ≤ 1000000 ∧ ∀ H', Same H H' → Q (.int (pl l)) H'
theorem ok_Lplace (T : Txt K mg) : Ok P w K mg base CX0 (2) "_law_place" s_Lplace ["word"] (sp_Lplace K) := by
  obtain ⟨fd, D⟩ := T.d_Lplace
  refine ⟨⟨_, fd, T.g__law_place, D, D.bindsN (fun _ _ _ _ _ _ us hl => match us, hl with | [_], _ => rfl), ?_⟩⟩
  refine D.ok sc_Lplace (fun vs H Q E h => ?_) (fun cdv A outer s H vs Q E hr h => ?_)
  · obtain ⟨l, rfl, hw, hl, q⟩ := h
    rfl
  · obtain ⟨l, rfl, hw, hl, q⟩ := h
    have F_Lheard_numbers := ok_Lheard_numbers (P := P) (w := w) (K := K) (mg := mg) (base := base) T
    refine ⟨_, PSs.nox (pss_one (ps_ret (pe_callB (cr_minT rfl) (by rfl) T.z_min (by decide +kernel) (pa_cons (pe_cl F_Lheard_numbers hr (by rfl) pass0 (pa_cons (pv 0) pa_nil)) pa_nil)))), ?_⟩
    walk_at "r"
    refine ⟨l, rfl, hw, hl, fun H1 t e1 ht h1 => ?_⟩
    walk_at "r"
    refine r_minT (ns := [(nu (pl l)).1, (nu (pl l)).2]) (SqT.of h1) (by simp) fun m hm hle => ?_
    rw [nu_min hm hle]
    exact q _ e1

def sp_Lpower (K : PySem.W.Frag) : Sp := fun vs H Q _ => ∃ n : Nat, vs = [.int n] ∧ n ≤ 1000000 ∧ Q (.int (3 ^ n)) H
theorem ok_Lpower (T : Txt K mg) : Ok P w K mg base CX0 (1) "_law_power" s_Lpower ["many"] (sp_Lpower K) := by
  obtain ⟨fd, D⟩ := T.d_Lpower
  refine ⟨⟨_, fd, T.g__law_power, D, D.bindsN (fun _ _ _ _ _ _ us hl => match us, hl with | [_], _ => rfl), ?_⟩⟩
  refine D.ok sc_Lpower (fun vs H Q E h => ?_) (fun cdv A outer s H vs Q E hr h => ?_)
  · obtain ⟨n, rfl, hn, q⟩ := h
    rfl
  · obtain ⟨n, rfl, hn, q⟩ := h
    refine ⟨_, PSs.nox (pss_cons (ps_set (i := 1) sc_Lpower.nd rfl (by first | exact Or.inl rfl | exact Or.inr rfl) pe_int)
      (pss_cons (ps_for PassesOwn.never rfl (pi_range1 (by rfl) T.z_range (pa_cons (pv 0) pa_nil)) (pg_name (i := 2) sc_Lpower.nd rfl (by first | exact Or.inl rfl | exact Or.inr rfl))
        (pss_one (ps_set (i := 1) sc_Lpower.nd rfl (by first | exact Or.inl rfl | exact Or.inr rfl) (pe_op op_mul pe_int (pv 1)))))
      (pss_one (ps_ret (pv 1))))), ?_⟩
    walk_at "r"
    refine ⟨_, rfl, by omega, by omega, for_range (n := n) (fun i σ H' => ∃ y, σ = [some (.int n), some (.int (3 ^ i)), y] ∧ H' = H) ⟨_, rfl, rfl⟩ ?_ ?_⟩
    · rintro i σ H' hi ⟨y, rfl, rfl⟩
      walk_at "r"
      refine r_I (.inl ⟨by decide, by decide⟩) ?_
      walk_at "r"
      exact ⟨_, by rw [Int.pow_succ, Int.mul_comm]; rfl, rfl⟩
    · rintro σ H' ⟨y, rfl, rfl⟩
      walk_at "r"
      exact q

def sp_Lcounted (K : PySem.W.Frag) : Sp := fun vs H Q _ => ∃ (a : Addr) (rs : List Tf.Row3) (n : Nat), vs = [.ref a, .int n] ∧ OwnAt K H a rs ∧ LawG rs ∧ rs.length ≤ 6 ∧ n ≤ 100 ∧ ∀ H', Same H H' → Q (.int ((wsum (liveW rs) (cntN rs n) : Nat) : Int)) H'
theorem ok_Lcounted (T : Txt K mg) : Ok P w K mg base CX0 (4) "_law_counted" s_Lcounted ["own", "many"] (sp_Lcounted K) := by
  obtain ⟨fd, D⟩ := T.d_Lcounted
  refine ⟨⟨_, fd, T.g__law_counted, D, D.bindsN (fun _ _ _ _ _ _ us hl => match us, hl with | [_, _], _ => rfl), ?_⟩⟩
  refine D.ok sc_Lcounted (fun vs H Q E h => ?_) (fun cdv A outer s H vs Q E hr h => ?_)
  · obtain ⟨a, rs, n, rfl, hO, hg, h6, hn, q⟩ := h
    rfl
  · obtain ⟨a, rs, n, rfl, hO, hg, h6, hn, q⟩ := h
    have F_Llaw_ways := ok_Llaw_ways (P := P) (w := w) (K := K) (mg := mg) (base := base) T
    have F_Llaw_living := ok_Llaw_living (P := P) (w := w) (K := K) (mg := mg) (base := base) T
    refine ⟨_, PSs.nox (pss_cons (ps_par (i := 3) (j := 4) (by rfl) sc_Lcounted.nd rfl rfl (by decide) rfl rfl (pa_cons (pe_cl F_Llaw_ways hr (by rfl) pass0 (pa_cons (pv 0) pa_nil)) (pa_cons (pe_disp (pps_cons (pe_ix ix_tup (pe_ix ix_list (pv 0) pe_int (fun _ _ => rfl)) pe_int (fun _ _ => rfl)) pe_int pps_nil) (by rfl) (by rfl) (fun z => by cases z) (by decide)) pa_nil)) (by rfl))
      (pss_cons (ps_for PassesOwn.never rfl (pi_range1 (by rfl) T.z_range (pa_cons (pv 1) pa_nil)) (pg_name (i := 2) sc_Lcounted.nd rfl (by first | exact Or.inl rfl | exact Or.inr rfl))
        (pss_cons (ps_set (i := 5) sc_Lcounted.nd rfl (by first | exact Or.inl rfl | exact Or.inr rfl) pe_dnewK)
      (pss_cons (ps_lock (ps_for PassesOwn.never rfl (pi_items (pv 4)) (pg_tup rfl (pgs_cons (pg_name (i := 6) sc_Lcounted.nd rfl (by first | exact Or.inl rfl | exact Or.inr rfl)) (pgs_cons (pg_name (i := 7) sc_Lcounted.nd rfl (by first | exact Or.inl rfl | exact Or.inr rfl)) pgs_nil)))
        (pss_one (ps_for PassesOwn.never rfl (pi_str (pe_strS [110, 102, 115] (by rfl))) (pg_name (i := 8) sc_Lcounted.nd rfl (by first | exact Or.inl rfl | exact Or.inr rfl))
        (pss_one (ps_dput (hu_of hr) (pv 5) (pe_dget (hu_of hr) (pe_dget (hu_of hr) (pv 3) (pv 6) (fun _ _ => rfl)) (pv 8) (fun _ _ => rfl)) (pe_op op_add (pe_dget2 (hu_of hr) (pv 5) (pe_dget (hu_of hr) (pe_dget (hu_of hr) (pv 3) (pv 6) (fun _ _ => rfl)) (pv 8) (fun _ _ => rfl)) pe_int ⟨by rfl, by rfl, by rfl, by rfl⟩) (pv 7)) (by rfl)))))))
      (pss_one (ps_set (i := 4) sc_Lcounted.nd rfl (by first | exact Or.inl rfl | exact Or.inr rfl) (pv 5))))))
      (pss_one (ps_ret (pe_callB (cr_sum rfl) (by rfl) T.z_sum (by decide +kernel) (pa_cons (pe_lock (pe_lc (own := [("here", 6), ("much", 7)]) (g := gTup K 2 (gCons (gName 6) (gCons (gName 7) gNil))) rfl sc_Lcounted.nd (pi_items (pv 4)) (blkOk_by (N := ["own", "many", "lap", "ways", "counts", "later", "here", "much", "letter"]) (sc := defScope s_Lcounted) (by decide +kernel)) (fun _ _ _ _ _ => (pg_tup rfl (pgs_cons (pg_name (i := 6) sc_Lcounted.nd rfl (by first | exact Or.inl rfl | exact Or.inr rfl)) (pgs_cons (pg_name (i := 7) sc_Lcounted.nd rfl (by first | exact Or.inl rfl | exact Or.inr rfl)) pgs_nil)))) (fun _ _ _ _ _ => (pts_one (pt_cmpR (show OpR _ _ (rIn K false) from op_in_seq) (pv 6) (pe_cl F_Llaw_living hr (by rfl) pass0 (pa_cons (pv 0) pa_nil)) (by rfl)))) (fun _ _ _ _ _ => (pv 7)))) pa_nil)))))), ?_⟩
    walk_at "r"
    refine ⟨a, rs, rfl, hO, hg.u, by omega, fun H1 p s1 hW => ?_⟩
    obtain ⟨ts, hL, hp⟩ := hO.same s1
    walk_at "r"
    intro pc hpc
    have s0 := same_new hpc (o := .dK [])
    have hpcH : H pc = none := same_free s1 hpc
    obtain ⟨r0, hr0, er0⟩ := first_ix hg.ne
    obtain ⟨t0, ht0, d0, hT0, hd0⟩ := paired_getL hp hr0
    show tOp _ _ _ _ _ _
    walk_at "r"
    refine r_ixL (Same.sql s0 hL) (v := .ref t0) (atI_nat (j := 0) (by rw [List.getElem?_map, ht0]; rfl)) ?_
    walk_at "r"
    refine r_ixT (Same.sqt s0 hT0) (v := .str (S r0.nm)) rfl ?_
    rw [er0]
    walk_at "r"
    refine ⟨upd_same, [(.inr (S (firstOf rs)), .int 1)], rfl, by show (1 : Nat) ≤ 15; decide, ?_⟩
    have sc0 := Same.mut (Same.trans s1 s0) hpcH (o := .dK (mergeK [] [((.inr (S (firstOf rs)) : Key), V.int 1)]))
    have sw0 := Same.mut s0 hpc (o := .dK (mergeK [] [((.inr (S (firstOf rs)) : Key), V.int 1)]))
    have ec0 : (upd (upd H1 pc (.dK [])) pc (.dK (mergeK [] [((.inr (S (firstOf rs)) : Key), V.int 1)]))) pc = some (.dK (nK (cntN rs 0))) := upd_same
    generalize upd (upd H1 pc (.dK [])) pc (.dK (mergeK [] [((.inr (S (firstOf rs)) : Key), V.int 1)])) = B0 at sc0 sw0 ec0 ⊢
    clear hL hp hT0 hd0
    walk_at "r"
    refine ⟨_, _, rfl, ?_⟩
    walk_at "r"
    refine ⟨_, rfl, by omega, by omega, for_range (n := n) (fun i σ X => ∃ pc y2 y5 y6 y7 y8, σ = [some (.ref a), some (.int n), y2, some (.ref p), some (.ref pc), y5, y6, y7, y8] ∧ Same H1 X ∧ H1 pc = none ∧ X pc = some (.dK (nK (cntN rs i)))) ⟨pc, _, _, _, _, _, rfl, sw0, hpc, ec0⟩ ?_ ?_⟩
    · rintro i σ X hi ⟨pc, y2, y5, y6, y7, y8, rfl, sX, hpc, eX⟩
      have ci := cntN_ok hg.cl hg.ne i
      walk_at "r"
      intro pa hpa
      have hpaH := same_free sX hpa
      have nca : pc ≠ pa := fun z => by subst z; rw [eX] at hpa; cases hpa
      walk_at "r"
      refine ⟨pc, _, (upd_ne nca).trans eX, by trivial, fun od => ?_⟩
      walk_at "r"
      refine ⟨pc, od, _, rfl, upd_same, for_J (n := (nK (cntN rs i)).length) (fun j σ Y => ∃ y6 y7 y8, σ = [some (.ref a), some (.int n), some (.int (0 + (i : Nat))), some (.ref p), some (.ref pc), some (.ref pa), y6, y7, y8] ∧ Same H1 Y ∧ Y pc = some (.frz od (.dK (nK (cntN rs i)))) ∧ Y pa = some (.dK (nK (((cntN rs i).take j).foldl (fun A q => goN rs q A) [])))) ⟨_, _, _, rfl, Same.mut (Same.mut sX hpaH) hpc, upd_same, (upd_ne nca.symm).trans upd_same⟩ (fun j σ Y hj h => by obtain ⟨_, _, _, _, _, h, _⟩ := h; exact ⟨h, hj⟩) (fun σ Y h => by obtain ⟨_, _, _, _, _, h, _⟩ := h; exact ⟨h, Nat.le_refl _⟩) ?_ ?_⟩
      · rintro j v σ Y Y2 hj ⟨y6, y7, y8, rfl, sY, eYc, eYa⟩ ⟨T2, k, vv, ek, rfl, hT, rfl⟩
        obtain ⟨q2, eq, rfl, rfl⟩ := nK_at ek
        have hqm := List.mem_of_getElem? eq
        have hq := ci.m _ (List.mem_map.mpr ⟨q2, hqm, rfl⟩)
        have cA : CntN rs (((cntN rs i).take j).foldl (fun A q => goN rs q A) []) := CntN.fold hg.cl _ _ CntN.nil fun z hz => ci.m _ (List.mem_map.mpr ⟨z, List.mem_of_mem_take hz, rfl⟩)
        rw [show kV (.inr (S q2.1)) = V.str (S q2.1) from rfl]
        refine r_gTup (SqT.of upd_same) rfl ?_
        have sT := same_new hT (o := .tup [.str (S q2.1), .int (q2.2 : Int)])
        have sY2 := Same.trans sY sT
        have eYc2 := sT _ _ eYc
        have eYa2 := sT _ _ eYa
        generalize upd Y T2 (.tup [.str (S q2.1), .int (q2.2 : Int)]) = Y2 at sT sY2 eYc2 eYa2 ⊢
        walk_at "r"
        refine ⟨_, rfl, for_S (l := [110, 102, 115]) (fun k σ Z => ∃ y8, σ = [some (.ref a), some (.int n), some (.int (0 + (i : Nat))), some (.ref p), some (.ref pc), some (.ref pa), some (.str (S q2.1)), some (.int (q2.2 : Int)), y8] ∧ Same H1 Z ∧ Z pc = some (.frz od (.dK (nK (cntN rs i)))) ∧ Z pa = some (.dK (nK (goK rs q2 (((cntN rs i).take j).foldl (fun A q => goN rs q A) []) k)))) ⟨_, rfl, sY2, eYc2, eYa2⟩ ?_ ?_⟩
        · rintro k c σ Z ec ⟨y8, rfl, sZ, eZc, eZa⟩
          have hcl : Fa c := by have := List.mem_of_getElem? ec; simpa [Fa] using this
          have cg := cA.goK hg.cl hq k
          have lg := cg.len
          obtain ⟨d2, g1, g2⟩ := ways_step (hW.same sZ) hq hcl
          walk_at "r"
          refine ⟨pa, rfl, .inl ⟨_, .inl eZa⟩, ?_⟩
          walk_at "r"
          refine ⟨p, _, rfl, g1, ?_⟩
          walk_at "r"
          refine ⟨d2, _, rfl, g2, ?_⟩
          walk_at "r"
          refine ⟨_, DGet.k (k := .inr (S (toF rs q2.1 c))) eZa, ?_⟩
          rw [nK_getD cg.nd]
          walk_at "r"
          refine ⟨p, _, rfl, g1, ?_⟩
          walk_at "r"
          refine ⟨d2, _, rfl, g2, ?_⟩
          refine ⟨pa, _, rfl, DPut.k (k := .inr (S (toF rs q2.1 c))) eZa (by rw [nK_len]; exact lt_line (by omega)), ?_⟩
          walk_at "r"
          refine ⟨_, rfl, Same.mut sZ hpaH, (upd_ne nca).trans eZc, ?_⟩
          rw [upd_same, goK_succ ec, ← nK_bump cg.nd]
          rfl
        · rintro σ Z ⟨y8, rfl, sZ, eZc, eZa⟩
          walk_at "r"
          refine ⟨_, _, _, rfl, sZ, eZc, ?_⟩
          rw [eZa, take_snoc' eq, List.foldl_append]
          rfl
      · rintro σ Y ⟨y6, y7, y8, rfl, sY, eYc, eYa⟩
        refine ⟨eYc, ?_⟩
        walk_at "r"
        rw [nK_len, List.take_length] at eYa
        exact ⟨pa, _, _, _, _, _, rfl, Same.mut sY hpc, hpaH, (upd_ne nca.symm).trans eYa⟩
    · rintro σ X ⟨pc, y2, y5, y6, y7, y8, rfl, sX, hpc, eX⟩
      have cn := cntN_ok hg.cl hg.ne n
      have ln := cn.len
      have sHX := Same.trans s1 sX
      walk_at "r"
      refine ⟨pc, _, eX, by trivial, fun od => ?_⟩
      have sL := Same.mut sX hpc (o := .frz od (.dK (nK (cntN rs n))))
      walk_at "r"
      refine ⟨pc, od, _, rfl, upd_same, fun D hD => lc_filt (J := Iti pc od (nK (cntN rs n))) (ls := cntN rs n) (fun q => V.int (q.2 : Int)) (fun q => !deadB rs q.1) hD (by omega) (fun j Z hj sZ => ⟨sZ _ _ upd_same, by rw [nK_len]; exact hj⟩) (fun Z sZ => ⟨sZ _ _ upd_same, by rw [nK_len]; exact Nat.le_refl _⟩) ?_ ?_⟩
      · rintro j q2 Z' Z v eq sZ ⟨T2, k, vv, ek, rfl, hT, rfl⟩ R hR
        obtain ⟨q', eq', rfl, rfl⟩ := nK_at ek
        obtain rfl : q' = q2 := Option.some.inj (eq'.symm.trans eq)
        have hq := cn.m _ (List.mem_map.mpr ⟨q', List.mem_of_getElem? eq, rfl⟩)
        rw [show kV (.inr (S q'.1)) = V.str (S q'.1) from rfl]
        refine r_gTup (SqT.of upd_same) rfl ?_
        walk_at "r"
        refine ⟨rfl, ?_⟩
        walk_at "r"
        have sT := same_new hT (o := .tup [.str (S q'.1), .int (q'.2 : Int)])
        refine ⟨a, rs, rfl, hO.same (Same.trans (Same.trans (Same.trans s1 sL) sZ) sT), hg.u, hg.cl, by omega, fun W lv L sW hL lL mL => ?_⟩
        refine r_inNm (.inl (SqL.of hL)) ?_
        walk_at "r"
        refine hR _ _ _ ?_ (fun R' h => by walk_at "r"; exact h) (Same.trans sT sW)
        rw [Bool.eq_iff_iff, decide_eq_true_eq, mL, Bool.not_eq_true', ← Bool.not_eq_true, deadB_iff]
        exact ⟨fun z y => y z.2, fun z => ⟨hq, Classical.byContradiction z⟩⟩
      · intro Z sZ eZ
        refine ⟨sZ _ _ upd_same, ?_⟩
        walk_at "r"
        have nD : D ≠ pc := fresh_ne hD upd_same
        refine r_sum (a := D) (SqL.of ((upd_ne nD).trans (by rw [eZ, List.map_map]; rfl))) ?_
        rw [live_sum]
        exact q _ (Same.trans sHX (Same.unlock eX sZ))
theorem leastw_eq {rs : List Tf.Row3} (hg : LawG rs) {o p : Option (List Nat)} (h : LeastW rs o) (k : LeastW rs p) : o = p := by
  have e := (h.r hg).eq (k.r hg)
  cases o with
  | none =>
    cases p with
    | none => rfl
    | some w => cases e
  | some v =>
    cases p with
    | none => cases e
    | some w =>
      have el : v.length = w.length := Option.some.inj e
      obtain ⟨⟨r, h1⟩, _⟩ := h.s v rfl
      obtain ⟨⟨r2, h2⟩, _⟩ := k.s w rfl
      rw [el, h2] at h1
      rw [(List.cons.inj h1).1]
def sp_Lright (K : PySem.W.Frag) : Sp := fun vs H Q _ => ∃ a : Addr, vs = [.ref a] ∧ PotAt H a 0 ∧ ∀ H', But a H H' → Q (.bl true) H'
theorem ok_Lright (T : Txt K mg) : Ok P w K mg base CX0 (12) "_law_right" s_Lright ["pot"] (sp_Lright K) := by
  obtain ⟨fd, D⟩ := T.d_Lright
  refine ⟨⟨_, fd, T.g__law_right, D, D.bindsN (fun _ _ _ _ _ _ us hl => match us, hl with | [_], _ => rfl), ?_⟩⟩
  refine D.ok sc_Lright (fun vs H Q E h => ?_) (fun cdv A outer s H vs Q E hr h => ?_)
  · obtain ⟨a, rfl, hP, q⟩ := h
    rfl
  · obtain ⟨a, rfl, hP, q⟩ := h
    have F_Ldrawn := ok_Ldrawn (P := P) (w := w) (K := K) (mg := mg) (base := base) T
    have F_Lof := ok_Lof (P := P) (w := w) (K := K) (mg := mg) (base := base) T
    have F_Lis := ok_Lis (P := P) (w := w) (K := K) (mg := mg) (base := base) T 1
    have F_Law_init := ok_Law_init (P := P) (w := w) (K := K) (mg := mg) (base := base) T
    have F_Lleast := ok_Lleast (P := P) (w := w) (K := K) (mg := mg) (base := base) T
    have F_Lbarred := ok_Lbarred (P := P) (w := w) (K := K) (mg := mg) (base := base) T
    have F_many_beginnings := ok_many_beginnings (P := P) (w := w) (K := K) (mg := mg) (base := base) T
    have F_Lcounted := ok_Lcounted (P := P) (w := w) (K := K) (mg := mg) (base := base) T
    have F_Llaw_text := ok_Llaw_text (P := P) (w := w) (K := K) (mg := mg) (base := base) T
    have F_barred_beginning := ok_barred_beginning (P := P) (w := w) (K := K) (mg := mg) (base := base) T
    have F_least_rounds := ok_least_rounds (P := P) (w := w) (K := K) (mg := mg) (base := base) T
    have F_Lpower := ok_Lpower (P := P) (w := w) (K := K) (mg := mg) (base := base) T
    have F_Lis_int := ok_Lis_int (P := P) (w := w) (K := K) (mg := mg) (base := base) T
    have F_barred_places := ok_barred_places (P := P) (w := w) (K := K) (mg := mg) (base := base) T
    have F_Lplace := ok_Lplace (P := P) (w := w) (K := K) (mg := mg) (base := base) T
    refine ⟨_, PSs.nox (pss_cons (ps_set (i := 1) sc_Lright.nd rfl (by first | exact Or.inl rfl | exact Or.inr rfl) (pe_cl F_Ldrawn hr (by rfl) pass0 (pa_cons (pv 0) pa_nil)))
      (pss_cons (ps_par (i := 3) (j := 4) (by rfl) sc_Lright.nd rfl rfl (by decide) rfl rfl (pa_cons (pe_mkI T.mk_Law F_Law_init (hr.mono (by omega)) (by rfl) T.g_Law pass0 (pa_cons (pe_cl F_Llaw_text hr (by rfl) pass0 (pa_cons (pv 1) pa_nil)) pa_nil)) (pa_cons (pe_cl F_Lleast hr (by rfl) pass0 (pa_cons (pv 1) pa_nil)) pa_nil)) (by rfl))
      (pss_cons (ps_if (pt_not (pt_val (pe_cl F_Lis hr (by rfl) pass0 (pa_cons (pe_clK0 F_barred_beginning hr (by rfl) pass0 (fun _ _ D => kb_barred_beginning_0_rule D) (pk_cons (pv 3) pk_nil)) (pa_cons (pv 4) pa_nil)))))
        (pss_one (ps_ret pe_bl))
        pss_nil)
      (pss_cons (ps_if (pt_not (pt_val (pe_cl F_Lis hr (by rfl) pass0 (pa_cons (pe_clK0 F_least_rounds hr (by rfl) pass0 (fun _ _ D => kb_least_rounds_0_rule D) (pk_cons (pv 3) pk_nil)) (pa_cons (pe_ifExp (pt_cmpR o_isN (pv 4) pe_non (nomark _)) pe_non (pe_callB k_lnS (by rfl) T.z_len (by decide +kernel) (pa_cons (pv 4) pa_nil))) pa_nil)))))
        (pss_one (ps_ret pe_bl))
        pss_nil)
      (pss_cons (ps_for PassesOwn.never rfl (pi_tup (pe_tup (pa_cons pe_int (pa_cons pe_int (pa_cons pe_int (pa_cons (pe_cl F_Lof hr (by rfl) pass0 (pa_cons (pv 0) (pa_cons (pe_lst (pa_cons pe_int (pa_cons pe_int (pa_cons pe_int pa_nil)))) pa_nil))) pa_nil)))))) (pg_name (i := 2) sc_Lright.nd rfl (by first | exact Or.inl rfl | exact Or.inr rfl))
        (pss_cons (ps_set (i := 5) sc_Lright.nd rfl (by first | exact Or.inl rfl | exact Or.inr rfl) (pe_cl F_Lbarred hr (by rfl) pass0 (pa_cons (pv 1) (pa_cons (pv 2) pa_nil))))
      (pss_cons (ps_set (i := 6) sc_Lright.nd rfl (by first | exact Or.inl rfl | exact Or.inr rfl) (pe_op op_sub (pe_cl F_Lpower hr (by rfl) pass0 (pa_cons (pv 2) pa_nil)) (pe_callB k_lnQ (by rfl) T.z_len (by decide +kernel) (pa_cons (pv 5) pa_nil))))
      (pss_cons (ps_if (pt_not (pt_val (pe_cl F_Lis_int hr (by rfl) pass0 (pa_cons (pe_clK0 F_many_beginnings hr (by rfl) pass0 (fun _ _ D => kb_many_beginnings_0_rule_rounds D) (pk_cons (pv 3) (pk_cons (pv 2) pk_nil))) (pa_cons (pv 6) (pa_cons (pv 6) pa_nil))))))
        (pss_one (ps_ret pe_bl))
        pss_nil)
      (pss_one (ps_if (pt_not (pt_val (pe_cl F_Lis hr (by rfl) pass0 (pa_cons (pe_clK0 F_barred_places hr (by rfl) pass0 (fun _ _ D => kb_barred_places_0_rounds_rule D) (pk_cons (pv 2) (pk_cons (pv 3) pk_nil))) (pa_cons (pe_tupleOf (by rfl) T.z_tuple (pe_callB cr_sortedI (by rfl) T.z_sorted (by decide +kernel) (pa_cons (pe_lc (own := [("word", 7)]) (g := gName 7) (tt := tYes) rfl sc_Lright.nd (pi_list (pv 5)) (blkOk_by (N := ["pot", "own", "many", "given", "due", "some", "begun", "word"]) (sc := defScope s_Lright) (by decide +kernel)) (fun _ _ _ _ _ => (pg_name (i := 7) sc_Lright.nd rfl (by first | exact Or.inl rfl | exact Or.inr rfl))) (fun _ _ _ _ _ => pts_nil) (fun _ _ _ _ _ => (pe_cl F_Lplace hr (by rfl) pass0 (pa_cons (pv 7) pa_nil)))) pa_nil))) pa_nil)))))
        (pss_one (ps_ret pe_bl))
        pss_nil))))))
      (pss_cons (ps_set (i := 2) sc_Lright.nd rfl (by first | exact Or.inl rfl | exact Or.inr rfl) (pe_cl F_Lof hr (by rfl) pass0 (pa_cons (pv 0) (pa_cons (pe_lst (pa_cons pe_int (pa_cons pe_int (pa_cons pe_int pa_nil)))) pa_nil))))
      (pss_one (ps_ret (pe_cl F_Lis hr (by rfl) pass0 (pa_cons (pe_cl F_many_beginnings hr (by rfl) pass0 (pa_cons (pv 3) (pa_cons (pv 2) pa_nil))) (pa_cons (pe_cl F_Lcounted hr (by rfl) pass0 (pa_cons (pv 1) (pa_cons (pv 2) pa_nil))) pa_nil))))))))))), ?_⟩
    walk_at "r"
    refine ⟨a, 0, rfl, hP, by omega, fun H1 o rs b1 P1 hO hg h5 => ?_⟩
    walk_at "r"
    refine ⟨o, rs, rfl, hO.s, hg, by omega, fun H2 s2 => ?_⟩
    walk_at "r"
    intro x dx hx hdx ndx
    refine ⟨x, dx, rs, rfl, upd_same, hg, fun H3 b3 hR => ⟨rfl, ?_⟩⟩
    have s3 := Same.trans s2 (made_same hx hdx b3)
    walk_at "r"
    refine ⟨o, rs, rfl, (hO.same s3).s, hg, h5, fun H4 ow s4 how => ?_⟩
    walk_at "r"
    refine ⟨_, _, rfl, ?_⟩
    walk_at "r"
    refine ⟨rfl, rfl, x, rs, rfl, hR.same s4, hg, fun H5 o2 s5 ho2 => ?_⟩
    obtain rfl := leastw_eq hg how ho2
    have scw : Eqv K H5 false 1 (wordV ow) (wordV ow) := by
      cases ow with
      | none => exact .inl (.inr (.inr (.inl ⟨rfl, rfl⟩)))
      | some w => exact .inl (.inr (.inl ⟨_, rfl, rfl⟩))
    walk_at "r"
    refine ⟨_, _, rfl, scw, fun H6 s6 => ?_⟩
    walk_at "r"
    have s46 := Same.trans (Same.trans s4 s5) s6
    refine ⟨rfl, rfl, x, rs, rfl, hR.same s46, hg, fun H7 o3 s7 ho3 => ?_⟩
    obtain rfl := (how.r hg).eq ho3
    have s47 := Same.trans s46 s7
    refine Tf.r_cons ?_
    refine Tf.r_cut (fun y H' => y = natV (ow.map (·.length)) ∧ H' = H7) ?_ fun R fin => ?_
    rotate_left
    · walk_at "r"
      cases ow with
      | none =>
        rw [show decide (wordV none = .non) = true from rfl]
        walk_at "r"
        exact fin _ _ ⟨rfl, rfl⟩
      | some w =>
        have hl := (how.s w rfl).2.2
        rw [decide_eq_false (show ¬ wordV (some w) = .non from fun z => by cases z)]
        walk_at "r"
        refine r_lnT (l := w) (by omega) ?_
        exact fin _ _ ⟨rfl, rfl⟩
    rintro y H' ⟨rfl, rfl⟩
    walk_at "r"
    have scn : Eqv K H' false 1 (natV (ow.map (·.length))) (natV (ow.map (·.length))) := by
      cases ow with
      | none => exact .inl (.inr (.inr (.inl ⟨rfl, rfl⟩)))
      | some w => exact .inl (.inl ⟨_, rfl, rfl⟩)
    refine ⟨_, _, rfl, scn, fun H8 s8 => ?_⟩
    walk_at "r"
    have s38 := Same.trans s47 s8
    have sB := Same.trans s3 s38
    have O8 := hO.same sB
    have R8 := hR.same s38
    have P8 := P1.same sB
    have B8 := b1.trans (But.of sB)
    clear scw scn s46 s47 s38 s3 s2 b3 hR hO hx hdx P1 sB s4 s5 s6 s7 s8
    refine ⟨by show 3 ≤ sizeLine; decide, fun pl3 hpl3 => ?_⟩
    have s9 := same_new hpl3 (o := .lst [.int 3, .int 4, .int 5])
    have e9 : (upd H8 pl3 (.lst [.int 3, .int 4, .int 5])) pl3 = some (.lst [.int 3, .int 4, .int 5]) := upd_same
    have n9 := P8.fresh hpl3
    generalize upd H8 pl3 (.lst [.int 3, .int 4, .int 5]) = H9 at s9 e9 ⊢
    walk_at "r"
    refine ⟨a, pl3, _, _, rfl, P8.same s9, by omega, SqL.of e9, n9, by decide, by decide, fun G v bG PG hv => ?_⟩
    have OG := (O8.same s9).but bG (P8.same s9)
    have RG := (R8.same s9).but bG (P8.same s9)
    have BG := (B8.trans (But.of s9)).trans bG
    obtain ⟨nv, rfl, hnv⟩ : ∃ nv : Nat, v = .int nv ∧ nv ≤ 5 := by
      simp only [List.mem_cons, List.not_mem_nil, or_false] at hv
      rcases hv with rfl | rfl | rfl
      · exact ⟨3, rfl, by omega⟩
      · exact ⟨4, rfl, by omega⟩
      · exact ⟨5, rfl, by omega⟩
    clear e9 s9 bG O8 R8 P8 B8
    walk_at "r"
    refine ⟨by show 4 ≤ sizeLine; decide, fun pt hpt => ?_⟩
    have sT := same_new hpt (o := .tup [.int 0, .int 1, .int 2, .int nv])
    have eT : (upd G pt (.tup [.int 0, .int 1, .int 2, .int nv])) pt = some (.tup [.int 0, .int 1, .int 2, .int nv]) := upd_same
    generalize upd G pt (.tup [.int 0, .int 1, .int 2, .int nv]) = G2 at sT eT ⊢
    have O2 := OG.same sT
    have R2 := RG.same sT
    have P2 := PG.same sT
    have B2 := BG.trans (But.of sT)
    clear OG RG PG BG sT
    have big3 : ∀ n : Nat, n ≤ 5 → (3 : Int) ^ n = ((3 ^ n : Nat) : Int) ∧ (3 : Nat) ^ n ≤ 243 := fun n hn => ⟨by rw [Int.natCast_pow]; rfl, (Nat.pow_le_pow_right (by decide) hn : 3 ^ n ≤ 3 ^ 5)⟩
    walk_at "r"
    refine ⟨pt, rfl, ⟨_, SqT.of eT⟩, for_U (xs := [.int 0, .int 1, .int 2, .int nv]) (fun i σ X => ∃ y2 y5 y6, σ = [some (.ref a), some (.ref o), y2, some (.ref x), some (wordV ow), y5, y6, none] ∧ Same G2 X) ⟨_, _, _, rfl, Same.refl _⟩ (fun i σ X ⟨_, _, _, _, e⟩ => SqT.of (e _ _ eT)) ?_ ?_⟩
    · rintro i vv σ X ev ⟨y2, y5, y6, rfl, sX⟩
      obtain ⟨n, rfl, hn⟩ : ∃ n : Nat, vv = .int n ∧ n ≤ 5 := by
        have := List.mem_of_getElem? ev
        simp only [List.mem_cons, List.not_mem_nil, or_false] at this
        rcases this with rfl | rfl | rfl | rfl
        · exact ⟨0, rfl, by omega⟩
        · exact ⟨1, rfl, by omega⟩
        · exact ⟨2, rfl, by omega⟩
        · exact ⟨nv, rfl, hnv⟩
      obtain ⟨b1, b2⟩ := big3 n hn
      walk_at "r"
      refine ⟨o, rs, n, rfl, (O2.same sX).s, hg, by omega, by omega, fun X1 p e1 hp => ?_⟩
      have sX1 := Same.trans sX e1
      walk_at "r"
      refine ⟨n, rfl, by omega, ?_⟩
      walk_at "r"
      refine r_lnL (SqL.of hp) ?_
      walk_at "r"
      refine ⟨rfl, rfl, x, rs, n, rfl, R2.same sX1, hg, by omega, fun X2 e2 => ?_⟩
      have sX2 := Same.trans sX1 e2
      have hcnt := live_count hg.cl hg.ne n
      walk_at "r"
      refine ⟨_, _, _, rfl, ?_⟩
      walk_at "r"
      rw [decide_eq_true (by rw [List.length_map, b1]; omega)]
      walk_at "r"
      refine ⟨rfl, rfl, x, rs, n, rfl, R2.same sX2, hg, by omega, fun X3 t e3 ht => ?_⟩
      have sX3 := Same.trans sX2 e3
      have hp3 := (Same.trans e2 e3) _ _ hp
      walk_at "r"
      refine ⟨p, rfl, ⟨_, SqL.of hp3⟩, fun D hD => ?_⟩
      refine lc_acc (n := (barF rs n).length) (fun m X => Same X3 X) (fun m v => ∃ w, (barF rs n)[m]? = some w ∧ v = .int (pl w)) ?_ (same_new hD) (fun m X acc acc' e h3 => Same.mut e hD) (fun m X hm e => ⟨_, V.str (S ((barF rs n)[m])), SqL.of (e _ _ hp3), by rw [List.getElem?_map, List.getElem?_eq_getElem hm]; rfl⟩) (fun X e => ⟨_, SqL.of (e _ _ hp3), by rw [List.length_map]; exact Nat.le_refl _⟩) ?_ ?_
      · omega
      · rintro m v X' X acc hm e hacc ⟨rfl, fy⟩ R hR'
        have ew : (barF rs n)[m]? = some ((barF rs n)[m]) := List.getElem?_eq_getElem hm
        generalize (barF rs n)[m] = w at ew
        have ev2 := fy _ (SqL.of (e _ _ hp3))
        rw [List.getElem?_map, ew] at ev2
        obtain rfl : V.str (S w) = v := Option.some.inj ev2
        obtain ⟨hw1, hw2⟩ := wordsF_mem.mp (List.mem_filter.mp (List.mem_of_getElem? ew)).1
        walk_at "r"
        refine ⟨rfl, ?_⟩
        walk_at "r"
        exact ⟨w, rfl, hw1, by omega, fun Z eZ => hR' _ _ (eZ _ _ hacc) ⟨w, ew, rfl⟩ (Same.trans e eZ)⟩
      · intro X4 acc hl hv hacc e4
        have eacc : acc = ((barF rs n).map pl).map V.int := by
          refine List.ext_getElem? fun j => ?_
          by_cases hj : j < (barF rs n).length
          · obtain ⟨w, ew, ev3⟩ := hv j acc[j] (List.getElem?_eq_getElem (by omega))
            rw [List.getElem?_eq_getElem (by omega), ev3, List.getElem?_map, List.getElem?_map, ew]
            rfl
          · rw [List.getElem?_eq_none (by omega), List.getElem?_eq_none (by rw [List.length_map, List.length_map]; omega)]
        rw [eacc] at hacc
        walk_at "r"
        refine ⟨D, _, rfl, SqL.of hacc, fun ys p5 hperm hpw hp5 => ?_⟩
        have eys := places_perm hn hperm hpw
        have s5 := same_new hp5 (o := .lst (ys.map V.int))
        have e5 : (upd X4 p5 (.lst (ys.map V.int))) p5 = some (.lst (ys.map V.int)) := upd_same
        generalize upd X4 p5 (.lst (ys.map V.int)) = X5 at s5 e5 ⊢
        refine .inl ⟨p5, _, rfl, SqL.of e5, fun u hu => ?_⟩
        have su := same_new hu (o := .tup (ys.map V.int))
        have eu : (upd X5 u (.tup (ys.map V.int))) u = some (.tup (ys.map V.int)) := upd_same
        have ht6 := (Same.trans (Same.trans e4 s5) su) _ _ ht
        have s6 := Same.trans (Same.trans (Same.trans sX3 e4) s5) su
        generalize upd X5 u (.tup (ys.map V.int)) = X6 at su eu ht6 s6 ⊢
        walk_at "r"
        rw [eys, List.map_map] at eu
        have hyl := congrArg List.length eys
        refine ⟨_, _, rfl, Eqv.flat (SqT.of ht6) (SqT.of eu) ?_ (fun z hz => ?_), fun X7 e7 => ?_⟩
        · rw [List.length_map]
          refine Nat.le_trans (List.length_filter_le _ _) ?_
          rw [List.length_range]
          omega
        · obtain ⟨i, _, rfl⟩ := List.mem_map.mp hz
          exact .inl ⟨_, rfl, rfl⟩
        walk_at "r"
        exact ⟨_, _, _, rfl, Same.trans s6 e7⟩
    · rintro σ X ⟨y2, y5, y6, rfl, sX⟩
      walk_at "r"
      have PX := P2.same sX
      refine ⟨by show 3 ≤ sizeLine; decide, fun pq hpq => ?_⟩
      have sq := same_new hpq (o := .lst [.int 10, .int 30, .int 60])
      have eq : (upd X pq (.lst [.int 10, .int 30, .int 60])) pq = some (.lst [.int 10, .int 30, .int 60]) := upd_same
      have nq := PX.fresh hpq
      generalize upd X pq (.lst [.int 10, .int 30, .int 60]) = X1 at sq eq ⊢
      have sX1 := Same.trans sX sq
      walk_at "r"
      refine ⟨a, pq, _, _, rfl, PX.same sq, by omega, SqL.of eq, nq, by decide, by decide, fun G3 v bG PG hv => ?_⟩
      obtain ⟨n, rfl, hn⟩ : ∃ n : Nat, v = .int n ∧ n ≤ 60 := by
        simp only [List.mem_cons, List.not_mem_nil, or_false] at hv
        rcases hv with rfl | rfl | rfl
        · exact ⟨10, rfl, by omega⟩
        · exact ⟨30, rfl, by omega⟩
        · exact ⟨60, rfl, by omega⟩
      have O4 := (O2.same sX1).but bG (PX.same sq)
      have R4 := (R2.same sX1).but bG (PX.same sq)
      have B4 := (B2.trans (But.of sX1)).trans bG
      walk_at "r"
      refine ⟨x, rs, n, rfl, R4, hg, by omega, fun G4 e4 => ?_⟩
      walk_at "r"
      refine ⟨o, rs, n, rfl, (O4.same e4).s, hg, by omega, by omega, fun G5 e5 => ?_⟩
      walk_at "r"
      exact ⟨_, _, rfl, .inl (.inl ⟨_, rfl, rfl⟩), fun G6 e6 => q _ (B4.trans (But.of (Same.trans (Same.trans e4 e5) e6)))⟩

def sp_law (K : PySem.W.Frag) : Sp := fun vs H Q _ => ∃ (a : Addr) (ns : List Int), vs = [.ref a] ∧ SqL K H a (ns.map V.int) ∧ ns.length ≤ 63 ∧ ∀ H', Q (.bl true) H'
theorem ok_law (T : Txt K mg) : Ok P w K mg base CX0 (13) "law" s_law ["script"] (sp_law K) := by
  obtain ⟨fd, D⟩ := T.d_law
  refine ⟨⟨_, fd, T.g_law, D, D.bindsN (fun _ _ _ _ _ _ us hl => match us, hl with | [_], _ => rfl), ?_⟩⟩
  refine D.ok sc_law (fun vs H Q E h => ?_) (fun cdv A outer s H vs Q E hr h => ?_)
  · obtain ⟨a, ns, rfl, hS, hlen, q⟩ := h
    rfl
  · obtain ⟨a, ns, rfl, hS, hlen, q⟩ := h
    have F_Lright := ok_Lright (P := P) (w := w) (K := K) (mg := mg) (base := base) T
    have F_Lpot := ok_Lpot (P := P) (w := w) (K := K) (mg := mg) (base := base) T
    have F_Lcells := ok_Lcells (P := P) (w := w) (K := K) (mg := mg) (base := base) T
    refine ⟨_, PSs.nox (pss_one (ps_ret (pe_callB (cr_all rfl) (by rfl) T.z_all (by decide +kernel) (pa_cons (pe_lc (own := [("at", 1)]) (g := gName 1) (tt := tYes) rfl sc_law.nd (pi_list (pe_cl F_Lcells hr (by rfl) pass0 (pa_cons (pv 0) (pa_cons pe_int pa_nil)))) (blkOk_by (N := ["script", "at"]) (sc := defScope s_law) (by decide +kernel)) (fun _ _ _ _ _ => (pg_name (i := 1) sc_law.nd rfl (by first | exact Or.inl rfl | exact Or.inr rfl))) (fun _ _ _ _ _ => pts_nil) (fun _ _ _ _ _ => (pe_cl F_Lright hr (by rfl) pass0 (pa_cons (pe_cl F_Lpot hr (by rfl) pass0 (pa_cons (pv 0) (pa_cons (pv 1) pa_nil))) pa_nil)))) pa_nil)))), ?_⟩
    walk_at "r"
    refine ⟨a, _, 2, rfl, hS, by decide, by decide, fun H1 p n e1 hn hp => ?_⟩
    refine ⟨p, rfl, ⟨_, SqL.of hp⟩, fun D hD => ?_⟩
    have hpD : p ≠ D := ne_of_none hp hD
    refine lc_acc (n := n) (fun i G' => Same H1 G') (fun _ v => v = .bl true) (by omega) (same_new hD) (fun i G' acc acc' e h3 => Same.mut e hD) (fun i G' hi e => ?_) (fun G' e => ?_) ?_ ?_
    · exact ⟨_, .int i, SqL.of (e _ _ hp), by rw [List.getElem?_map, List.getElem?_range hi]; rfl⟩
    · exact ⟨_, SqL.of (e _ _ hp), by rw [List.length_map, List.length_range]; exact Nat.le_refl _⟩
    · rintro i v G' G2 acc hi e hacc ⟨rfl, f⟩ R hR
      have ev := f _ (SqL.of (e _ _ hp))
      rw [List.getElem?_map, List.getElem?_range hi] at ev
      obtain rfl : V.int (i : Int) = v := Option.some.inj ev
      walk_at "r"
      refine ⟨rfl, ?_⟩
      walk_at "r"
      refine ⟨a, ns, i, rfl, (e1.trans e).seq hS, by omega, fun G3 pt e3 hpt P3 => ?_⟩
      walk_at "r"
      refine ⟨pt, rfl, P3, fun G4 e4 => ?_⟩
      have hpt' : pt ≠ D := (ne_of_none hacc hpt).symm
      have hx : Same G2 G4 := fun b o hb => e4 b o (fun z => by rw [z, hpt] at hb; cases hb) (e3 b o hb)
      exact hR _ _ (hx _ _ hacc) rfl (e.trans hx)
    · rintro G' acc hl hv hacc e
      walk_at "r"
      rw [all_true hl hv] at hacc
      exact r_allT hacc (q _)


end
/-! ### the head -/
def d_Lpot : He.DefD := ⟨("_law_pot", none), "_law_pot", "_law_pot", defArgs s_Lpot, defBody s_Lpot, defScope s_Lpot, [], []⟩
def d_Ltake : He.DefD := ⟨("_law_take", none), "_law_take", "_law_take", defArgs s_Ltake, defBody s_Ltake, defScope s_Ltake, [], []⟩
def d_Lof : He.DefD := ⟨("_law_of", none), "_law_of", "_law_of", defArgs s_Lof, defBody s_Lof, defScope s_Lof, [], []⟩
def d_Lcells : He.DefD := ⟨("_law_cells", none), "_law_cells", "_law_cells", defArgs s_Lcells, defBody s_Lcells, defScope s_Lcells, [], []⟩
def d_is_name : He.DefD := ⟨("is_name", none), "is_name", "is_name", defArgs s_is_name, defBody s_is_name, defScope s_is_name, [], []⟩
def d_is_head : He.DefD := ⟨("is_head", none), "is_head", "is_head", defArgs s_is_head, defBody s_is_head, defScope s_is_head, [], []⟩
def d_last_word : He.DefD := ⟨("last_word", none), "last_word", "last_word", defArgs s_last_word, defBody s_last_word, defScope s_last_word, [], []⟩
def d_is_state : He.DefD := ⟨("is_state", none), "is_state", "is_state", defArgs s_is_state, defBody s_is_state, defScope s_is_state, [], []⟩
def d_is_way : He.DefD := ⟨("is_way", none), "is_way", "is_way", defArgs s_is_way, defBody s_is_way, defScope s_is_way, [], []⟩
def d_can_stand : He.DefD := ⟨("can_stand", none), "can_stand", "can_stand", defArgs s_can_stand, defBody s_can_stand, defScope s_can_stand, [], []⟩
def d_standing_lines : He.DefD := ⟨("standing_lines", none), "standing_lines", "standing_lines", defArgs s_standing_lines, defBody s_standing_lines, defScope s_standing_lines, [], []⟩
def d_steps_of : He.DefD := ⟨("steps_of", none), "steps_of", "steps_of", defArgs s_steps_of, defBody s_steps_of, defScope s_steps_of, [], []⟩
def d_Law_init : He.DefD := ⟨("Law", some "__init__"), "__init__", "Law.__init__", defArgs s_Law_init, defBody s_Law_init, defScope s_Law_init, [], []⟩
def d_state_behind : He.DefD := ⟨("state_behind", none), "state_behind", "state_behind", defArgs s_state_behind, defBody s_state_behind, defScope s_state_behind, [], []⟩
def d_ways_from : He.DefD := ⟨("ways_from", none), "ways_from", "ways_from", defArgs s_ways_from, defBody s_ways_from, defScope s_ways_from, [], []⟩
def d_is_whole : He.DefD := ⟨("is_whole", none), "is_whole", "is_whole", defArgs s_is_whole, defBody s_is_whole, defScope s_is_whole, [], []⟩
def d_need_number : He.DefD := ⟨("need_number", none), "need_number", "need_number", defArgs s_need_number, defBody s_need_number, defScope s_need_number, [], []⟩
def d_place_behind : He.DefD := ⟨("place_behind", none), "place_behind", "place_behind", defArgs s_place_behind, defBody s_place_behind, defScope s_place_behind, [], []⟩
def d_width : He.DefD := ⟨("width", none), "width", "width", defArgs s_width, defBody s_width, defScope s_width, [], []⟩
def d_word_with : He.DefD := ⟨("word_with", none), "word_with", "word_with", defArgs s_word_with, defBody s_word_with, defScope s_word_with, [], []⟩
def d_whole_row : He.DefD := ⟨("whole_row", none), "whole_row", "whole_row", defArgs s_whole_row, defBody s_whole_row, defScope s_whole_row, [], []⟩
def d_leads_to : He.DefD := ⟨("leads_to", none), "leads_to", "leads_to", defArgs s_leads_to, defBody s_leads_to, defScope s_leads_to, [], []⟩
def d_fates_to : He.DefD := ⟨("fates_to", none), "fates_to", "fates_to", defArgs s_fates_to, defBody s_fates_to, defScope s_fates_to, [], []⟩
def d_living : He.DefD := ⟨("living", none), "living", "living", defArgs s_living, defBody s_living, defScope s_living, [], []⟩
def d_fates_to_break : He.DefD := ⟨("fates_to_break", none), "fates_to_break", "fates_to_break", defArgs s_fates_to_break, defBody s_fates_to_break, defScope s_fates_to_break, [], []⟩
def d_least_rounds : He.DefD := ⟨("least_rounds", none), "least_rounds", "least_rounds", defArgs s_least_rounds, defBody s_least_rounds, defScope s_least_rounds, [], []⟩
def d_first_barred : He.DefD := ⟨("first_barred", none), "first_barred", "first_barred", defArgs s_first_barred, defBody s_first_barred, defScope s_first_barred, [], []⟩
def d_many_beginnings : He.DefD := ⟨("many_beginnings", none), "many_beginnings", "many_beginnings", defArgs s_many_beginnings, defBody s_many_beginnings, defScope s_many_beginnings, [], []⟩
def d_barred_places : He.DefD := ⟨("barred_places", none), "barred_places", "barred_places", defArgs s_barred_places, defBody s_barred_places, defScope s_barred_places, [], []⟩
def d_barred_beginning : He.DefD := ⟨("barred_beginning", none), "barred_beginning", "barred_beginning", defArgs s_barred_beginning, defBody s_barred_beginning, defScope s_barred_beginning, [], []⟩
def d_Llaw_drawn : He.DefD := ⟨("_law_law_drawn", none), "_law_law_drawn", "_law_law_drawn", defArgs s_Llaw_drawn, defBody s_Llaw_drawn, defScope s_Llaw_drawn, [], []⟩
def d_Llaw_text : He.DefD := ⟨("_law_law_text", none), "_law_law_text", "_law_law_text", defArgs s_Llaw_text, defBody s_Llaw_text, defScope s_Llaw_text, [], []⟩
def d_Ldrawn : He.DefD := ⟨("_law_drawn", none), "_law_drawn", "_law_drawn", defArgs s_Ldrawn, defBody s_Ldrawn, defScope s_Ldrawn, [], []⟩
def d_Llaw_ways : He.DefD := ⟨("_law_law_ways", none), "_law_law_ways", "_law_law_ways", defArgs s_Llaw_ways, defBody s_Llaw_ways, defScope s_Llaw_ways, [], []⟩
def d_Llaw_after : He.DefD := ⟨("_law_law_after", none), "_law_law_after", "_law_law_after", defArgs s_Llaw_after, defBody s_Llaw_after, defScope s_Llaw_after, [], []⟩
def d_Llaw_reached : He.DefD := ⟨("_law_law_reached", none), "_law_law_reached", "_law_law_reached", defArgs s_Llaw_reached, defBody s_Llaw_reached, defScope s_Llaw_reached, [], []⟩
def d_Llaw_living : He.DefD := ⟨("_law_law_living", none), "_law_law_living", "_law_law_living", defArgs s_Llaw_living, defBody s_Llaw_living, defScope s_Llaw_living, [], []⟩
def d_Lwords : He.DefD := ⟨("_law_words", none), "_law_words", "_law_words", defArgs s_Lwords, defBody s_Lwords, defScope s_Lwords, [], []⟩
def d_Lbarred : He.DefD := ⟨("_law_barred", none), "_law_barred", "_law_barred", defArgs s_Lbarred, defBody s_Lbarred, defScope s_Lbarred, [], []⟩
def d_Lleast : He.DefD := ⟨("_law_least", none), "_law_least", "_law_least", defArgs s_Lleast, defBody s_Lleast, defScope s_Lleast, [], []⟩
def d_Lis : He.DefD := ⟨("_law_is", none), "_law_is", "_law_is", defArgs s_Lis, defBody s_Lis, defScope s_Lis, [], []⟩
def d_Lis_int : He.DefD := ⟨("_law_is_int", none), "_law_is_int", "_law_is_int", defArgs s_Lis_int, defBody s_Lis_int, defScope s_Lis_int, [], []⟩
def d_Lheard_numbers : He.DefD := ⟨("_law_heard_numbers", none), "_law_heard_numbers", "_law_heard_numbers", defArgs s_Lheard_numbers, defBody s_Lheard_numbers, defScope s_Lheard_numbers, [], []⟩
def d_Lplace : He.DefD := ⟨("_law_place", none), "_law_place", "_law_place", defArgs s_Lplace, defBody s_Lplace, defScope s_Lplace, [], []⟩
def d_Lpower : He.DefD := ⟨("_law_power", none), "_law_power", "_law_power", defArgs s_Lpower, defBody s_Lpower, defScope s_Lpower, [], []⟩
def d_Lcounted : He.DefD := ⟨("_law_counted", none), "_law_counted", "_law_counted", defArgs s_Lcounted, defBody s_Lcounted, defScope s_Lcounted, [], []⟩
def d_Lright : He.DefD := ⟨("_law_right", none), "_law_right", "_law_right", defArgs s_Lright, defBody s_Lright, defScope s_Lright, [], []⟩
def d_law : He.DefD := ⟨("law", none), "law", "law", defArgs s_law, defBody s_law, defScope s_law, [], []⟩
def fn : List He.DefD := [d_Lpot, d_Ltake, d_Lof, d_Lcells, d_is_name, d_is_head, d_last_word, d_is_state, d_is_way, d_can_stand, d_standing_lines, d_steps_of, d_Law_init, d_state_behind, d_ways_from, d_is_whole, d_need_number, d_place_behind, d_width, d_word_with, d_whole_row, d_leads_to, d_fates_to, d_living, d_fates_to_break, d_least_rounds, d_first_barred, d_many_beginnings, d_barred_places, d_barred_beginning, d_Llaw_drawn, d_Llaw_text, d_Ldrawn, d_Llaw_ways, d_Llaw_after, d_Llaw_reached, d_Llaw_living, d_Lwords, d_Lbarred, d_Lleast, d_Lis, d_Lis_int, d_Lheard_numbers, d_Lplace, d_Lpower, d_Lcounted, d_Lright, d_law]
def fa : List He.Fa := [.glo "_law_pot", .glo "_law_take", .glo "_law_of", .glo "_law_cells", .glo "is_name", .glo "is_head", .glo "last_word", .glo "is_state", .glo "is_way", .glo "can_stand", .glo "standing_lines", .glo "steps_of", .glo "state_behind", .glo "ways_from", .glo "is_whole", .glo "need_number", .glo "place_behind", .glo "width", .glo "word_with", .glo "whole_row", .glo "leads_to", .glo "fates_to", .glo "living", .glo "fates_to_break", .glo "least_rounds", .glo "first_barred", .glo "many_beginnings", .glo "barred_places", .glo "barred_beginning", .glo "_law_law_drawn", .glo "_law_law_text", .glo "_law_drawn", .glo "_law_law_ways", .glo "_law_law_after", .glo "_law_law_reached", .glo "_law_law_living", .glo "_law_words", .glo "_law_barred", .glo "_law_least", .glo "_law_is", .glo "_law_is_int", .glo "_law_heard_numbers", .glo "_law_place", .glo "_law_power", .glo "_law_counted", .glo "_law_right", .glo "law", .str "FATES" "nfs", .str "LETTERS" "abcdefghijklmnopqrstuvwxyz", .int "MOST_ROUNDS" 200, .int "MOST_LETTERS" 6, .int "MOST_STATES" 64, .int "LINES_OF_A_STATE" 4, .int "MOST_WHOLE" 6, .glo "BEHIND", .glo "Law", .cls "Law", .mkr "Law", .noat "Law" "marked", .noat "Law" "names", .noat "Law" "often", .noat "Law" "steps", .noat "Law" "text", .free "abs", .free "all", .free "any", .free "bool", .free "dict", .free "enumerate", .free "int", .free "isinstance", .free "len", .free "list", .free "max", .free "min", .free "range", .free "reversed", .free "sorted", .free "str", .free "sum", .free "tuple", .free "type", .free "zip"]
def ex (K : PySem.W.Frag) : Bool := He.tupB K "BEHIND" [.str "snf", .str "fns"] && (true)
abbrev R : PySem.W.OpenRow := PySem.W.OpenLaw.row PySem.Challenge.rw_twofarplayers_k23_whole_least_rounds_by
abbrev hk : PySem.W.Hook := Tf.hookX 4 fa fn ex
def ob (s : PySem.W.SharedT) : Tf.AlX := Tf.obsX 4 fa fn ex (HandSHeadRun.getT s)
theorem ob_eq (s : PySem.W.SharedT) : ob s = hk.obs s.abs := Tf.obsX_eq (HandSHeadRun.getT_eq s)
def loose0 : List Str := ["PlayError", "BadLaw", "BadNumber", "FATES", "LETTERS", "MOST_ROUNDS", "MOST_LETTERS", "is_name", "is_whole", "need_number", "MOST_STATES", "LINES_OF_A_STATE", "Law", "standing_lines", "is_head", "can_stand", "is_state", "is_way", "last_word", "steps_of", "state_behind", "ways_from", "MOST_WHOLE", "BEHIND", "width", "place_behind", "word_with", "whole_row", "fates_to", "leads_to"]
def loose1 : List Str := ["living", "fates_to_break", "first_barred", "barred_beginning", "least_rounds", "many_beginnings", "barred_places", "_law_pot", "_law_take", "_law_of", "_law_cells", "_law_is_int", "_law_law_text", "_law_law_ways", "_law_law_after", "_law_law_reached", "_law_law_living", "_law_law_drawn", "_law_is", "_law_power", "_law_heard_numbers", "_law_place", "_law_words", "_law_barred", "_law_least", "_law_drawn", "_law_counted", "_law_right"]
def loose : List Str := loose0 ++ loose1
theorem run (w : World) : HandSHeadRun.RunEq R (PySem.W.view R.prog [64]) hk ob 20000 loose w := by
  intro os
  kernel_rfl
theorem txt {K : PySem.W.Frag} {h : Heap} {mg : Str → Option Value} (X : K.In h) (G : h.Ns mainGlobals mg) (c : He.SaysD fa fn K) (cx : ex K = true) : Txt K mg := by
  obtain ⟨tu0, cx⟩ := He.ba cx
  exact ⟨c.def_ 0 (d := d_Lpot) rfl,
    He.glo_ok X G (c.fact 0 (f := .glo "_law_pot") rfl),
    c.def_ 1 (d := d_Ltake) rfl,
    He.glo_ok X G (c.fact 1 (f := .glo "_law_take") rfl),
    c.def_ 2 (d := d_Lof) rfl,
    He.glo_ok X G (c.fact 2 (f := .glo "_law_of") rfl),
    c.def_ 3 (d := d_Lcells) rfl,
    He.glo_ok X G (c.fact 3 (f := .glo "_law_cells") rfl),
    c.def_ 4 (d := d_is_name) rfl,
    He.glo_ok X G (c.fact 4 (f := .glo "is_name") rfl),
    c.def_ 5 (d := d_is_head) rfl,
    He.glo_ok X G (c.fact 5 (f := .glo "is_head") rfl),
    c.def_ 6 (d := d_last_word) rfl,
    He.glo_ok X G (c.fact 6 (f := .glo "last_word") rfl),
    c.def_ 7 (d := d_is_state) rfl,
    He.glo_ok X G (c.fact 7 (f := .glo "is_state") rfl),
    c.def_ 8 (d := d_is_way) rfl,
    He.glo_ok X G (c.fact 8 (f := .glo "is_way") rfl),
    c.def_ 9 (d := d_can_stand) rfl,
    He.glo_ok X G (c.fact 9 (f := .glo "can_stand") rfl),
    c.def_ 10 (d := d_standing_lines) rfl,
    He.glo_ok X G (c.fact 10 (f := .glo "standing_lines") rfl),
    c.def_ 11 (d := d_steps_of) rfl,
    He.glo_ok X G (c.fact 11 (f := .glo "steps_of") rfl),
    c.def_ 12 (d := d_Law_init) rfl,
    c.def_ 13 (d := d_state_behind) rfl,
    He.glo_ok X G (c.fact 12 (f := .glo "state_behind") rfl),
    c.def_ 14 (d := d_ways_from) rfl,
    He.glo_ok X G (c.fact 13 (f := .glo "ways_from") rfl),
    c.def_ 15 (d := d_is_whole) rfl,
    He.glo_ok X G (c.fact 14 (f := .glo "is_whole") rfl),
    c.def_ 16 (d := d_need_number) rfl,
    He.glo_ok X G (c.fact 15 (f := .glo "need_number") rfl),
    c.def_ 17 (d := d_place_behind) rfl,
    He.glo_ok X G (c.fact 16 (f := .glo "place_behind") rfl),
    c.def_ 18 (d := d_width) rfl,
    He.glo_ok X G (c.fact 17 (f := .glo "width") rfl),
    c.def_ 19 (d := d_word_with) rfl,
    He.glo_ok X G (c.fact 18 (f := .glo "word_with") rfl),
    c.def_ 20 (d := d_whole_row) rfl,
    He.glo_ok X G (c.fact 19 (f := .glo "whole_row") rfl),
    c.def_ 21 (d := d_leads_to) rfl,
    He.glo_ok X G (c.fact 20 (f := .glo "leads_to") rfl),
    c.def_ 22 (d := d_fates_to) rfl,
    He.glo_ok X G (c.fact 21 (f := .glo "fates_to") rfl),
    c.def_ 23 (d := d_living) rfl,
    He.glo_ok X G (c.fact 22 (f := .glo "living") rfl),
    c.def_ 24 (d := d_fates_to_break) rfl,
    He.glo_ok X G (c.fact 23 (f := .glo "fates_to_break") rfl),
    c.def_ 25 (d := d_least_rounds) rfl,
    He.glo_ok X G (c.fact 24 (f := .glo "least_rounds") rfl),
    c.def_ 26 (d := d_first_barred) rfl,
    He.glo_ok X G (c.fact 25 (f := .glo "first_barred") rfl),
    c.def_ 27 (d := d_many_beginnings) rfl,
    He.glo_ok X G (c.fact 26 (f := .glo "many_beginnings") rfl),
    c.def_ 28 (d := d_barred_places) rfl,
    He.glo_ok X G (c.fact 27 (f := .glo "barred_places") rfl),
    c.def_ 29 (d := d_barred_beginning) rfl,
    He.glo_ok X G (c.fact 28 (f := .glo "barred_beginning") rfl),
    c.def_ 30 (d := d_Llaw_drawn) rfl,
    He.glo_ok X G (c.fact 29 (f := .glo "_law_law_drawn") rfl),
    c.def_ 31 (d := d_Llaw_text) rfl,
    He.glo_ok X G (c.fact 30 (f := .glo "_law_law_text") rfl),
    c.def_ 32 (d := d_Ldrawn) rfl,
    He.glo_ok X G (c.fact 31 (f := .glo "_law_drawn") rfl),
    c.def_ 33 (d := d_Llaw_ways) rfl,
    He.glo_ok X G (c.fact 32 (f := .glo "_law_law_ways") rfl),
    c.def_ 34 (d := d_Llaw_after) rfl,
    He.glo_ok X G (c.fact 33 (f := .glo "_law_law_after") rfl),
    c.def_ 35 (d := d_Llaw_reached) rfl,
    He.glo_ok X G (c.fact 34 (f := .glo "_law_law_reached") rfl),
    c.def_ 36 (d := d_Llaw_living) rfl,
    He.glo_ok X G (c.fact 35 (f := .glo "_law_law_living") rfl),
    c.def_ 37 (d := d_Lwords) rfl,
    He.glo_ok X G (c.fact 36 (f := .glo "_law_words") rfl),
    c.def_ 38 (d := d_Lbarred) rfl,
    He.glo_ok X G (c.fact 37 (f := .glo "_law_barred") rfl),
    c.def_ 39 (d := d_Lleast) rfl,
    He.glo_ok X G (c.fact 38 (f := .glo "_law_least") rfl),
    c.def_ 40 (d := d_Lis) rfl,
    He.glo_ok X G (c.fact 39 (f := .glo "_law_is") rfl),
    c.def_ 41 (d := d_Lis_int) rfl,
    He.glo_ok X G (c.fact 40 (f := .glo "_law_is_int") rfl),
    c.def_ 42 (d := d_Lheard_numbers) rfl,
    He.glo_ok X G (c.fact 41 (f := .glo "_law_heard_numbers") rfl),
    c.def_ 43 (d := d_Lplace) rfl,
    He.glo_ok X G (c.fact 42 (f := .glo "_law_place") rfl),
    c.def_ 44 (d := d_Lpower) rfl,
    He.glo_ok X G (c.fact 43 (f := .glo "_law_power") rfl),
    c.def_ 45 (d := d_Lcounted) rfl,
    He.glo_ok X G (c.fact 44 (f := .glo "_law_counted") rfl),
    c.def_ 46 (d := d_Lright) rfl,
    He.glo_ok X G (c.fact 45 (f := .glo "_law_right") rfl),
    c.def_ 47 (d := d_law) rfl,
    He.glo_ok X G (c.fact 46 (f := .glo "law") rfl),
    He.str_ok X G (c.fact 47 (f := .str "FATES" "nfs") rfl),
    He.str_ok X G (c.fact 48 (f := .str "LETTERS" "abcdefghijklmnopqrstuvwxyz") rfl),
    He.int_ok X G (c.fact 49 (f := .int "MOST_ROUNDS" 200) rfl),
    He.int_ok X G (c.fact 50 (f := .int "MOST_LETTERS" 6) rfl),
    He.int_ok X G (c.fact 51 (f := .int "MOST_STATES" 64) rfl),
    He.int_ok X G (c.fact 52 (f := .int "LINES_OF_A_STATE" 4) rfl),
    He.int_ok X G (c.fact 53 (f := .int "MOST_WHOLE" 6) rfl),
    He.glo_ok X G (c.fact 54 (f := .glo "BEHIND") rfl),
    fun H => He.tupB_ok (vs := [.str "snf", .str "fns"]) (tu0) H,
    He.glo_ok X G (c.fact 55 (f := .glo "Law") rfl),
    He.cls_ok (c.fact 56 (f := .cls "Law") rfl),
    He.mkr_ok (c.fact 57 (f := .mkr "Law") rfl),
    He.noat_ok (c.fact 58 (f := .noat "Law" "marked") rfl),
    He.noat_ok (c.fact 59 (f := .noat "Law" "names") rfl),
    He.noat_ok (c.fact 60 (f := .noat "Law" "often") rfl),
    He.noat_ok (c.fact 61 (f := .noat "Law" "steps") rfl),
    He.noat_ok (c.fact 62 (f := .noat "Law" "text") rfl),
    He.free_ok X G (c.fact 63 (f := .free "abs") rfl),
    He.free_ok X G (c.fact 64 (f := .free "all") rfl),
    He.free_ok X G (c.fact 65 (f := .free "any") rfl),
    He.free_ok X G (c.fact 66 (f := .free "bool") rfl),
    He.free_ok X G (c.fact 67 (f := .free "dict") rfl),
    He.free_ok X G (c.fact 68 (f := .free "enumerate") rfl),
    He.free_ok X G (c.fact 69 (f := .free "int") rfl),
    He.free_ok X G (c.fact 70 (f := .free "isinstance") rfl),
    He.free_ok X G (c.fact 71 (f := .free "len") rfl),
    He.free_ok X G (c.fact 72 (f := .free "list") rfl),
    He.free_ok X G (c.fact 73 (f := .free "max") rfl),
    He.free_ok X G (c.fact 74 (f := .free "min") rfl),
    He.free_ok X G (c.fact 75 (f := .free "range") rfl),
    He.free_ok X G (c.fact 76 (f := .free "reversed") rfl),
    He.free_ok X G (c.fact 77 (f := .free "sorted") rfl),
    He.free_ok X G (c.fact 78 (f := .free "str") rfl),
    He.free_ok X G (c.fact 79 (f := .free "sum") rfl),
    He.free_ok X G (c.fact 80 (f := .free "tuple") rfl),
    He.free_ok X G (c.fact 81 (f := .free "type") rfl),
    He.free_ok X G (c.fact 82 (f := .free "zip") rfl)⟩
theorem facts {P : Program} {w : World} {K : PySem.W.Frag} {h : Heap} {mg : Str → Option Value} {f : Addr} (X : K.In h) (G : h.Ns mainGlobals mg) (hfa : mg ("law" : Str) = some (.ref f)) (c : He.SaysD fa fn K) (cx : ex K = true) :
    ∃ fd : FuncData, (∀ (s : Shared) (v : Value), BindsTo s fd ⟨[v], []⟩ [("script", v)]) ∧ ∀ base : Heap, K.In base → base.Ns mainGlobals mg → FnOk P w K mg base CX0 13 f fd ["script"] (sp_law K) := by
  have T := txt X G c cx
  obtain ⟨fd, D⟩ := T.d_law
  have e := hfa.symm.trans T.g_law
  cases e
  have b := FunD.bindsA (ps := ["script"]) D fun _ _ _ _ _ _ us hl => match us, hl with | [_], _ => rfl
  exact ⟨fd, fun s v => b s [v] rfl, fun base _ _ => (ok_law T).at T.g_law D⟩
end K23
open PySem PySem.W PySem.Calls PyProof.Rows
theorem PySem.Challenge.cw_twofarplayers_k23_whole_least_rounds_by_holds : PySem.Challenge.rw_twofarplayers_k23_whole_least_rounds_by.Holds := by
  w_on; o_law
  refine HandSHeadRun.head_any (r := OpenLaw.row PySem.Challenge.rw_twofarplayers_k23_whole_least_rounds_by) (q := view (OpenLaw.row PySem.Challenge.rw_twofarplayers_k23_whole_least_rounds_by).prog [64]) (H := K23.hk) (ob := K23.ob) (M := 20000) (loose := K23.loose) (d := HandSHeadRun.topDef (OpenLaw.row PySem.Challenge.rw_twofarplayers_k23_whole_least_rounds_by).prog 64) (kwd := []) K23.ob_eq
    (by kernel_rfl) (fun s => by kernel_rfl) K23.run (by kernel_rfl) (by kernel_rfl) (by kernel_rfl) (by rfl) (by first | assumption | decide +kernel) (by decide +kernel) ⟨rfl, rfl, rfl, rfl, rfl, by decide +kernel⟩ ?hw ?hc
  case hw => w_witness2
  case hc =>
    refine L2.walk_ofE (l := PySem.Challenge.rw_twofarplayers_k23_whole_least_rounds_by) (n := 63) (k := 13) (x := "script") (CX := L2.CX0) rfl (by decide) (by kernel_rfl) ⟨rfl, by decide, by decide⟩ ?F (fun _ _ _ _ z => z)
    intro w mg fa h Y G hmg0
    obtain ⟨K, KX, c, cx⟩ := Y
    have hmg : mg ("law" : PySem.Str) = some (.ref fa) := by
      have e : (HandSHeadRun.topDef (OpenLaw.row PySem.Challenge.rw_twofarplayers_k23_whole_least_rounds_by).prog 64).name = ("law" : PySem.Str) := by kernel_rfl
      rw [← e]
      exact hmg0
    obtain ⟨fd, hb, hF⟩ := K23.facts (P := (PySem.Challenge.rw_twofarplayers_k23_whole_least_rounds_by).prog) (w := w) KX G hmg c cx
    exact ⟨K, fd, K23.sp_law K, KX, hb, fun H a ns hl _ hS => ⟨a, ns, rfl, hS, hl, fun _ => rfl⟩, hF⟩
