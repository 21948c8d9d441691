import PyProof.Rows.All
import Wide.All
import OpenK.AllK
import Wide.FinOn
import PyProof.RangeFor
import HandS.ForMost
import HandS.Defaults
import HandS.WideBits
import HandS.Wide
import HandS.TupMul
import HandS.TupAny
import HandS.Sort
import HandS.RevRange
import HandS.Property
import HandS.EndBits
import HandS.Head0
import HandS.Head1
import HandS.Head2
import HandS.HeadEnd
import HandS.HeadHook1
import HandS.HeadHook2
import HandS.HeadHook3
import HandS.HeadHook4
import HandS.HeadWalk
import HandS.Zip
import KE.KEqDeep
import KE.GoesEnum
import HandS.Walk
import HandS.TryOnly
import HandS.IsInst
import KE.KOpsOwn
import HandS.ClsMeth
import HandS.HeadNt
import HandS.Flow
import HandS.Conv
import PySem.Challenge.RW_packedlanes_k11_whole_casting_out
set_option Elab.async false
set_option linter.all false
set_option maxRecDepth 100000
set_option maxHeartbeats 4000000
namespace L2
open PySem PySem.Spec PyProof.Rows
/-! ### own operators: x op y of two instances of one class -/
def rOwn (C : Addr) (sp : Sp) (E : XK) : R2 := fun x y H Q => ∃ a b dx dy fs gs, x = .ref a ∧ y = .ref b ∧ H a = some (.ins C dx fs) ∧ H b = some (.ins C dy gs) ∧ sp [.ref a, .ref b] H Q E
theorem cmpBack_of {X : Cx} {pins : List (Addr × Obj)} {σ : St} {Q : VK} {u : Value} {s : Shared} (h : EP X pins σ Q u s) : PySem.W.CmpBack (EP X pins σ Q) u s := by
  obtain ⟨v, H', I', rv, q⟩ := id h
  cases v with
  | non => cases rv; exact h
  | bl b => cases rv; exact h
  | int i => obtain ⟨t, rfl⟩ := id rv; exact h
  | str i => obtain ⟨t, rfl⟩ := id rv; exact h
  | byt i => obtain ⟨t, rfl⟩ := id rv; exact h
  | flt i => obtain ⟨t, rfl⟩ := id rv; exact h
  | ref a => cases rv; exact h
  | ty n => cases rv; exact h
theorem op_own {X : Cx} {CX : CXT} {op : Operator} {x : Str} {C f : Addr} {fd : FuncData} {ps : List Str} {sp : Sp} {E : XK} {k : Nat} (hm : Meth X.K C x f) (sf : PySem.W.selfFirst X.K C = true) (F : FnOk X.prog X.w X.K X.mg X.base CX k f fd ps sp)
    (hr : Room k X.A) (hb : Binds X.K fd ps []) (hx : Passes CX X E) (hn : PySem.dunder op.info.2 = x := by first | rfl | decide +kernel) : OpR X (binaryOp op) (rOwn C sp E) := by
  intro pins s σ H x' y v u Q I rx ry h
  obtain ⟨a, b, dx, dy, fs, gs, rfl, rfl, ha, hb', hsp⟩ := h
  cases rx
  cases ry
  obtain ⟨mA, J, _⟩ := ins_get I.hok ha
  obtain ⟨mB, J', _⟩ := ins_get I.hok hb'
  obtain ⟨od, J, _⟩ := J.look
  obtain ⟨od', J', _⟩ := J'.look
  obtain ⟨m, hF⟩ := I.fr
  subst hn
  refine PySem.W.binop_K hF I.ok.mod.kin J J'.type sf hm.at_ hm.fn ?_
  exact wpAny_mono (run_fn (us := [.ref a, .ref b]) (vs := [.ref a, .ref b]) F hr hb .nil hx I (.cons rfl (.cons rfl .nil)) hsp) (fun v s' q => cmpBack_of q) fun _ _ z => z
/-! ### ranges -/
theorem op_notin_rng {X : Cx} : OpR X (compareOp .NotIn) (fun x y H Q => ∃ i a lo hi, x = V.int i ∧ y = V.ref a ∧ H a = some (.rng lo hi) ∧ Q (.bl (!decide (lo ≤ i ∧ i < hi))) H) := by
  intro pins s σ H x y v u Q I rx ry h
  obtain ⟨i, a, lo, hi, rfl, rfl, ha, q⟩ := h
  obtain ⟨k, rfl⟩ := rx
  obtain rfl : u = Value.ref a := ry
  obtain ⟨t1, t2, t3, ho⟩ := I.hok a _ ha
  show wpAny _ _ (do return Value.bool (!(← contains (Value.ref a) (Value.int i k)))) _ _ s
  refine wpAny_bind (wpAny_contains_slot (T := "range") ⟨_, ho, rfl⟩ F.slot_range_contains (call_meets F.slot_range_contains ⟨_, ho, rfl⟩ F.entry_range_contains (F.args_range_contains_2 _ _) (q_contains a lo hi i t1 t2 t3 k)
    ⟨ho, wpAny_truthy_bool (wpAny_pure ⟨.bl _, H, I, rfl, ?_⟩)⟩))
  rw [place1]
  exact q
theorem cr_range1 {X : Cx} : CallR X (.type "range") (fun vs H Q => ∃ j, vs = [V.int j] ∧ ∀ p, H p = none → Q (.ref p) (upd H p (.rng 0 j))) := by
  intro pins s σ H vs us Q I r h
  obtain ⟨i, rfl, q⟩ := h
  obtain ⟨u1, rfl, t, rfl⟩ := vals1 r
  refine call_range_1 ⟨.ref s.heap.objs.size, upd H s.heap.objs.size (.rng 0 i), I.laid (t' := s.toks + 2) (fun b o e => Heap.get?_push_of_some _ e) (Nat.le_refl _) ?_, rfl, q _ (I.hok.fresh (Nat.le_refl _))⟩
  exact ⟨s.toks, t, s.toks + 1, Heap.get?_push_size _ rfl⟩
/-! ### a law's end: script bits, one written part -/
theorem walk_ofEB {l : PySem.W.OpenLaw} {n k : Nat} {q : Program} {loose : List Str} {XP : (Str → Option Value) → Heap → Prop} {YP : World → Heap → Prop} {d : DefRec} {CX : CXT} {x : Str}
    (hn : l.most = some n) (hn2 : n ≤ sizeLine) (hdf : d.params.defaults = []) (hr : Room k callerA)
    (F : ∀ (w : World) (mg : Str → Option Value) (fa : Addr) (h : Heap), YP w h → h.Ns mainGlobals mg → mg d.name = some (.ref fa) →
      ∃ (K : PySem.W.Frag) (fd : FuncData) (sp : Sp), K.In h ∧ (∀ (s : Shared) (u : Value), BindsTo s fd ⟨[u], []⟩ [(x, u)]) ∧
        (∀ (H : Hp) (a : Addr) (ns : List Int), ns.length ≤ n → (∀ z ∈ ns, Builtin.Int.intBits z ≤ 1048576) → Only H → SqL K H a (ns.map V.int) → sp [.ref a] H (fun v _ => v = .bl true) fun _ _ _ => False) ∧
        ∀ base : Heap, K.In base → base.Ns mainGlobals mg → FnOk l.prog w K mg base CX k fa fd [x] sp)
    (hCX : ∀ (H : Hp) (s : Shared) (e : Value) (s' : Shared), CX [] H s (fun _ _ _ => False) e s' → False) :
    PySem.W.WalkO q loose XP YP l.row.toRowW d [] (fun f vs => PySem.call f vs) := by
  refine Att.attach_callB hn hdf fun w s₀ s₁ mg mb fa o pm cd doc a vs ns G Y ho hd hcd hmg hobj hints hlen hbits hg => ?_
  obtain ⟨K, fd, sp, KX, hb, hsp, hF⟩ := F w mg fa _ Y G.T.g hmg
  exact law_call KX G.T.g G.T.b G.T.builtins G.T.nolimit hg hobj hints (Nat.le_trans hlen hn2) hr hF hb (fun H hO hS => hsp H a ns hlen hbits hO hS) fun H e s' => hCX H s₁ e s'
end L2

set_option Elab.async false
set_option linter.all false
set_option maxRecDepth 100000
set_option maxHeartbeats 4000000
namespace L2
open PySem PySem.Spec PyProof.Rows
open AutoSeq1 (wpAny_loadPart')
theorem tuple_mul1 (l : Addr) (items : Array Value) (n : Nat) (dd : Option Addr) (sl : Array (Option Value)) (u : Tok) :
    Meets (Builtin.«tuple.__mul__» ⟨[.ref l, .int 1 u], []⟩) (fun _ R s => s.heap.get? l = some { cls := .type "tuple", dict := dd, data := .seq items n, slots := sl } ∧
      R (.ok (.ret (Value.ref l))) s) :=
  .of_wp fun prog w A R s h => by
    obtain ⟨hp, g, d, tk, os⟩ := s
    obtain ⟨hl, h⟩ := h
    have f1 := AutoSeq1.idx_int
    wp_walk using wpAny_loadPart' hl
    exact ⟨_, rfl, h⟩
theorem tuple_mul0 (l : Addr) (items : Array Value) (n : Nat) (dd : Option Addr) (sl : Array (Option Value)) (u : Tok) (hi : items.isEmpty = false) :
    Meets (Builtin.«tuple.__mul__» ⟨[.ref l, .int 0 u], []⟩) (fun _ R s => s.heap.get? l = some { cls := .type "tuple", dict := dd, data := .seq items n, slots := sl } ∧
      R (.ok (.ret (Value.ref s.heap.objs.size))) { s with heap := s.heap.push { cls := Value.type "tuple", data := Data.seq #[] } }) :=
  .of_wp fun prog w A R s h => by
    obtain ⟨hp, g, d, tk, os⟩ := s
    obtain ⟨hl, h⟩ := h
    have f1 := AutoSeq1.idx_int
    wp_walk using wpAny_loadPart' hl
    exact ⟨_, rfl, h⟩
def rRepA (K : PySem.W.Frag) : R2 := fun x y H Q => ∃ l k xs, x = .ref l ∧ y = .int k ∧ SqT K H l xs ∧ xs ≠ [] ∧ 0 ≤ k ∧ k ≤ 1000 ∧ xs.length ≤ 1000 ∧ ∀ H' p, Same H H' → SqT K H' p (List.replicate k.toNat xs).flatten → Q (.ref p) H'
theorem same_upd {H : Hp} {p : Addr} {o : HO} (h : H p = none) : Same H (upd H p o) := fun b x e => by
  rw [upd_ne (ne_of_none e h)]
  exact e
theorem op_repA {X : Cx} : OpR X (binaryOp .Mult) (rRepA X.K) := by
  intro pins s σ H x y v u Q I rx ry h
  obtain ⟨l, k, xs, rfl, rfl, hT, hne, h0, h2, hz, q⟩ := h
  by_cases k2 : 2 ≤ k
  · exact op_repT pins s σ H _ _ v u Q I rx ry ⟨l, k, xs, rfl, rfl, hT, hne, k2, h2, hz, fun p hp => q _ p (same_upd hp) (.inl (.inl upd_same))⟩
  cases rx
  obtain ⟨t, rfl⟩ := ry
  obtain ⟨its, r, ⟨⟨cls, dd, data, sl⟩, ho, hc, n, hd⟩, hs⟩ := I.tuple hT
  simp only at hc hd
  subst hc hd
  have hle : its.length = xs.length := r.length.symm
  have hn : its ≠ [] := fun e => hne (by
    rw [e] at hle
    exact List.eq_nil_of_length_eq_zero hle.symm)
  have hi : its.toArray.isEmpty = false := by
    cases its with
    | nil => exact absurd rfl hn
    | cons a b => rfl
  by_cases k1 : k = 1
  · subst k1
    refine wpAny_binaryOp_repeat_ref (T := "tuple") (U := "int") (by decide) ⟨_, ho, rfl⟩ (fun s' => typeIs_int s' 1 t) noFill_tuple_mul F.fills_int_mul F.slot_int_rmul repeat_tuple F.slot_int_index.lookup
      (call_meets F.slot_int_rmul (typeIs_int s 1 t) F.entry_int_rmul (F.args_int_rmul_2 _ _) (int_rmul_tuple 1 t l its.toArray n dd sl)
        ⟨ho, rfl, ⟨_, ho, rfl⟩, call_meets F.slot_tuple_mul ⟨_, ho, rfl⟩ F.entry_tuple_mul (F.args_tuple_mul_2 _ _) (tuple_mul1 l its.toArray n dd sl t) ⟨ho, ?_⟩⟩)
    refine ⟨.ref l, H, I, rfl, q H l (Same.refl H) ?_⟩
    show SqT X.K H l (List.replicate 1 xs).flatten
    simpa using hT
  · have k0 : k = 0 := by omega
    subst k0
    refine wpAny_binaryOp_repeat_ref (T := "tuple") (U := "int") (by decide) ⟨_, ho, rfl⟩ (fun s' => typeIs_int s' 0 t) noFill_tuple_mul F.fills_int_mul F.slot_int_rmul repeat_tuple F.slot_int_index.lookup
      (call_meets F.slot_int_rmul (typeIs_int s 0 t) F.entry_int_rmul (F.args_int_rmul_2 _ _) (int_rmul_tuple 0 t l its.toArray n dd sl)
        ⟨ho, rfl, ⟨_, ho, rfl⟩, call_meets F.slot_tuple_mul ⟨_, ho, rfl⟩ F.entry_tuple_mul (F.args_tuple_mul_2 _ _) (tuple_mul0 l its.toArray n dd sl t hi) ⟨ho, ?_⟩⟩)
    refine ⟨.ref s.heap.objs.size, _, I.laid (t' := s.toks) (o := .tup []) (fun b ob q => Heap.get?_push_of_some _ q) (Nat.le_refl _) ?_, rfl, q _ _ (same_upd (I.hok.fresh (Nat.le_refl _))) (.inl (.inl upd_same))⟩
    exact ⟨Nat.zero_le _, [], .nil, IsTup.new _ _⟩
end L2

set_option Elab.async false
set_option linter.all false
set_option maxRecDepth 100000
set_option maxHeartbeats 4000000
namespace L2
open PySem PySem.Spec PyProof.Rows RZ
/-! ### a list or a tuple -/
def Sq (K : PySem.W.Frag) (H : Hp) (a : Addr) (xs : List V) : Prop := SqL K H a xs ∨ SqT K H a xs
theorem Same.upd {H H1 : Hp} {p : Addr} {o : HO} (s : Same H H1) (h : H1 p = none) : Same H (upd H1 p o) := s.trans (same_upd h)
theorem Same.seqT {K : PySem.W.Frag} {H H' : Hp} {a : Addr} {xs : List V} (e : Same H H') (h : SqT K H a xs) : SqT K H' a xs := by
  rcases h with (h | ⟨o, h⟩) | h
  · exact .inl (.inl (e _ _ h))
  · exact .inl (.inr ⟨o, e _ _ h⟩)
  · exact .inr h
theorem Same.sq {K : PySem.W.Frag} {H H' : Hp} {a : Addr} {xs : List V} (e : Same H H') (h : Sq K H a xs) : Sq K H' a xs := h.imp e.seq e.seqT
/-- but for what stands at l -/
def SameBut (l : Addr) (H H' : Hp) : Prop := ∀ b o, b ≠ l → H b = some o → H' b = some o
theorem SameBut.of_upd {H : Hp} {l : Addr} {o : HO} : SameBut l H (upd H l o) := fun b x n e => by
  rw [upd_ne n]
  exact e
theorem Same.but {H H1 H2 : Hp} {l : Addr} (s : Same H H1) (hl : H l = none) (b : SameBut l H1 H2) : Same H H2 := fun c o e => b c o (ne_of_none e hl) (s c o e)
/-! ### rules whose new things stand in a new heap -/
section
variable {X : Cx}
theorem PE.imp {e : Expr} {t t' : TE} (h : PE X e t) (f : ∀ σ H Q, t' σ H Q → t σ H Q) : PE X e t' := ⟨fun pins s σ H Q I q => h.run pins s σ H Q I (f σ H Q q)⟩
def NewL (xs : List V) (H : Hp) (Q : VK) : Prop := ∀ H' p, Same H H' → H p = none → H' p = some (.lst xs) → Q (.ref p) H'
def NewT (K : PySem.W.Frag) (xs : List V) (H : Hp) (Q : VK) : Prop := ∀ H' p, Same H H' → SqT K H' p xs → Q (.ref p) H'
theorem NewL.go {xs : List V} {H : Hp} {Q : VK} (h : NewL xs H Q) : ∀ p, H p = none → Q (.ref p) (upd H p (.lst xs)) := fun p hp => h _ p (same_upd hp) hp upd_same
theorem NewT.go {K : PySem.W.Frag} {xs : List V} {H : Hp} {Q : VK} (h : NewT K xs H Q) : ∀ p, H p = none → Q (.ref p) (upd H p (.tup xs)) := fun p hp => h _ p (same_upd hp) (.inl (.inl upd_same))
def tLstN (t : TA) : TE := fun σ H Q => t σ H fun xs H1 => xs.length ≤ sizeLine ∧ NewL xs H1 Q
def tTupN (K : PySem.W.Frag) (t : TA) : TE := fun σ H Q => t σ H fun xs H1 => xs.length ≤ sizeLine ∧ NewT K xs H1 Q
def upA (t : TA) : TA := fun σ H Q => ∃ Q0 : List V → Hp → Prop, t σ H Q0 ∧ ∀ xs H, Q0 xs H → Q xs H
theorem PA.up {es : List Expr} {t : TA} (h : PA X es t) : PA X es (upA t) := ⟨fun pos pins s σ H Q I ⟨Q0, q, f⟩ => thn (h.run pos pins s σ H Q0 I q) fun us s1 ⟨vs, H1, I1, r1, q1⟩ => ⟨vs, H1, I1, r1, f _ _ q1⟩⟩
theorem pe_lstN {es : List Expr} {t : TA} {pos : Pos} (h : PA X es t) : PE X (.List es pos) (tLstN t) := (pe_lst h.up).imp fun σ H Q q => ⟨_, q, fun xs H1 z => ⟨z.1, z.2.go⟩⟩
theorem pe_tupN {es : List Expr} {t : TA} {x1} {pos : Pos} (h : PA X es t) : PE X (.Tuple es x1 pos) (tTupN X.K t) := (pe_tup h.up).imp fun σ H Q q => ⟨_, q, fun xs H1 z => ⟨z.1, z.2.go⟩⟩
theorem call_listN : CallR X (.type "list") (fun xs H Q => ∃ p ys, xs = [.ref p] ∧ Sq X.K H p ys ∧ NewL ys H Q) := fun pins s σ H xs us Q I r ⟨p, ys, e, h, q⟩ => call_list_of pins s σ H xs us Q I r ⟨p, ys, e, h, q.go⟩
theorem call_tupleN : CallR X (.type "tuple") (fun xs H Q => ∃ p ys, xs = [.ref p] ∧ Sq X.K H p ys ∧ NewT X.K ys H Q) := fun pins s σ H xs us Q I r ⟨p, ys, e, h, q⟩ => call_tuple_of pins s σ H xs us Q I r ⟨p, ys, e, h.elim (fun h => .inl ⟨h, q.go⟩) fun h => .inr ⟨h, q H p (Same.refl H) h⟩⟩
theorem call_lenN : CallR X (.builtin "len") (fun xs H Q => ∃ p ys, xs = [.ref p] ∧ Sq X.K H p ys ∧ Q (.int ys.length) H) := call_len_seq
theorem cut_all {xs : List V} {lo hi : Option Int} (h : HT.sIx xs.length 0 lo = 0 ∧ HT.sIx xs.length xs.length hi = xs.length) : cutV xs lo hi = xs := by
  unfold cutV
  rw [h.1, h.2]
  simp
/-- a slice of a tuple -/
def rSlT2 (K : PySem.W.Frag) : V → Option Int → Option Int → Hp → VK → Prop := fun x lo hi H Q => ∃ a xs, x = .ref a ∧ SqT K H a xs ∧ NewT K (cutV xs lo hi) H Q
theorem sl_tupN : SlR X (rSlT2 X.K) := by
  intro pins s σ H x v vl vu lo hi sl Q I r1 r2 r3 r4 h
  obtain ⟨a, xs, rfl, hS, q⟩ := h
  refine sl_tupA pins s σ H _ v vl vu lo hi sl Q I r1 r2 r3 r4 ⟨a, xs, rfl, hS, fun hc => ?_, fun _ => q.go⟩
  refine q H a (Same.refl H) ?_
  rw [cut_all hc]
  exact hS
def rSlL2 (K : PySem.W.Frag) : V → Option Int → Option Int → Hp → VK → Prop := fun x lo hi H Q => ∃ a xs, x = .ref a ∧ SqL K H a xs ∧ NewL (cutV xs lo hi) H Q
theorem sl_listN : SlR X (rSlL2 X.K) := fun pins s σ H x v vl vu lo hi sl Q I r1 r2 r3 r4 ⟨a, xs, e, hS, q⟩ => sl_list pins s σ H x v vl vu lo hi sl Q I r1 r2 r3 r4 ⟨a, xs, e, hS, q.go⟩
def rCatN : R2 := fun x y H Q => ∃ l b xs zs, x = .ref l ∧ y = .ref b ∧ H l = some (.lst xs) ∧ H b = some (.lst zs) ∧ xs.length + zs.length ≤ sizeLine ∧ NewL (xs ++ zs) H Q
theorem op_catN : OpR X (binaryOp .Add) rCatN := fun pins s σ H x y v u Q I r1 r2 ⟨l, b, xs, zs, e1, e2, h1, h2, h3, q⟩ => op_cat pins s σ H x y v u Q I r1 r2 ⟨l, b, xs, zs, e1, e2, h1, h2, h3, q.go⟩
def rRepN : R2 := fun x y H Q => ∃ l k xs, x = .ref l ∧ y = .int k ∧ H l = some (.lst xs) ∧ -(2 ^ 63) ≤ k ∧ k < 2 ^ 63 ∧ xs.length * k.toNat ≤ sizeLine ∧ NewL (List.replicate k.toNat xs).flatten H Q
theorem op_repN : OpR X (binaryOp .Mult) rRepN := fun pins s σ H x y v u Q I r1 r2 ⟨l, k, xs, e1, e2, h1, h2, h3, h4, q⟩ => op_rep pins s σ H x y v u Q I r1 r2 ⟨l, k, xs, e1, e2, h1, h2, h3, h4, q.go⟩
def rCatT2 (K : PySem.W.Frag) : R2 := fun x y H Q => ∃ a b xs ys, x = .ref a ∧ y = .ref b ∧ SqT K H a xs ∧ SqT K H b ys ∧ xs.length + ys.length ≤ sizeLine ∧ NewT K (xs ++ ys) H Q
theorem op_catTN : OpR X (binaryOp .Add) (rCatT2 X.K) := fun pins s σ H x y v u Q I r1 r2 ⟨a, b, xs, ys, e1, e2, h1, h2, h3, q⟩ =>
  op_catA pins s σ H x y v u Q I r1 r2 ⟨a, b, xs, ys, e1, e2, h1, h2, h3, (fun e => q H b (Same.refl H) (by rw [e]; exact h2)), (fun _ e => q H a (Same.refl H) (by rw [e, List.append_nil]; exact h1)), fun _ _ => q.go⟩
def rAppendN : V → List V → Hp → VK → Prop := fun x vs H Q => ∃ l xs y, x = .ref l ∧ vs = [y] ∧ H l = some (.lst xs) ∧ xs.length < sizeLine ∧ ∀ H', SameBut l H H' → H' l = some (.lst (xs ++ [y])) → Q .non H'
theorem mt_appendN : MtM X "list.append" rAppendN := fun pins s σ H x vs v us Q I r1 r2 ⟨l, xs, y, e1, e2, h1, h2, q⟩ => mt_append pins s σ H x vs v us Q I r1 r2 ⟨l, xs, y, e1, e2, h1, h2, q _ .of_upd upd_same⟩
theorem cr_rangeN1 : CallR X (.type "range") (fun vs H Q => ∃ j, vs = [V.int j] ∧ ∀ H' p, Same H H' → H' p = some (.rng 0 j) → Q (.ref p) H') := fun pins s σ H vs us Q I r ⟨j, e, q⟩ => cr_range1 pins s σ H vs us Q I r ⟨j, e, fun p hp => q _ p (same_upd hp) upd_same⟩
theorem cr_rangeN2 : CallR X (.type "range") (fun vs H Q => ∃ i j, vs = [V.int i, V.int j] ∧ ∀ H' p, Same H H' → H' p = some (.rng i j) → Q (.ref p) H') := fun pins s σ H vs us Q I r ⟨i, j, e, q⟩ => cr_range2 pins s σ H vs us Q I r ⟨i, j, e, fun p hp => q _ p (same_upd hp) upd_same⟩
/-- xs[i] = v, a list -/
def rSetN : V → V → V → Hp → (Hp → Prop) → Prop := fun o i v H Q => ∃ p xs k j, o = .ref p ∧ i = .int k ∧ H p = some (.lst xs) ∧ ixN xs.length k = some j ∧ ∀ H', SameBut p H H' → H' p = some (.lst (xs.set j v)) → Q H'
/-! ### weaker ends -/
def upE (t : TE) : TE := fun σ H Q => ∃ Q0 : VK, t σ H Q0 ∧ ∀ v H, Q0 v H → Q v H
def upT (t : TT) : TT := fun σ H Q => ∃ Q0 : Bool → Hp → Prop, t σ H Q0 ∧ ∀ v H, Q0 v H → Q v H
def upG (t : TG) : TG := fun v σ H Q => ∃ Q0 : St → Hp → Prop, t v σ H Q0 ∧ ∀ σ H, Q0 σ H → Q σ H
def upI (t : TI) : TI := fun σ H R => ∃ R0 : It → Hp → Prop, t σ H R0 ∧ ∀ J H, R0 J H → R J H
theorem PE.up {e : Expr} {t : TE} (h : PE X e t) : PE X e (upE t) := ⟨fun pins s σ H Q I ⟨Q0, q, f⟩ => thn (h.run pins s σ H Q0 I q) fun us s1 ⟨vs, H1, I1, r1, q1⟩ => ⟨vs, H1, I1, r1, f _ _ q1⟩⟩
theorem PTs.up {e : List Expr} {t : TT} (h : PTs X e t) : PTs X e (upT t) := ⟨fun pins s σ H Q I ⟨Q0, q, f⟩ => thn (h.run pins s σ H Q0 I q) fun us s1 ⟨H1, I1, q1⟩ => ⟨H1, I1, f _ _ q1⟩⟩
theorem PT.up {e : Expr} {t : TT} (h : PT X e t) : PT X e (upT t) := ⟨fun pins s σ H Q I ⟨Q0, q, f⟩ => thn (h.run pins s σ H Q0 I q) fun us s1 ⟨H1, I1, q1⟩ => ⟨H1, I1, f _ _ q1⟩⟩
theorem PG.up {e : Expr} {t : TG} (h : PG X e t) : PG X e (upG t) := ⟨fun pins s σ H v u Q I r ⟨Q0, q, f⟩ => thn (h.run pins s σ H v u Q0 I r q) fun us s1 ⟨σ1, H1, I1, q1⟩ => ⟨σ1, H1, I1, f _ _ q1⟩⟩
theorem PI.up {tg e : Expr} {t : TI} (h : PI X tg e t) : PI X tg e (upI t) := ⟨fun pins s σ H R I ⟨R0, q, f⟩ => thn (h.run pins s σ H R0 I q) fun v s1 z => thn z fun w s2 ⟨it, fp, tn, J, H', e1, e2, e3, e4, e5, e6⟩ => ⟨it, fp, tn, J, H', e1, e2, e3, e4, e5, f _ _ e6⟩⟩
/-! ### [elt for target in iter if ..]: the list so far a letter -/
def tLcN (wi : TI) (g : TG) (tt : TT) (te : TE) (vs : List Nat) : TE := fun σ H Q => wi σ H fun J H1 => ∀ D H1', H1 D = none → Same H1 H1' → H1' D = some (.lst []) → ∃ W : Nat → Nat → List V → Hp → Prop, (∃ m, W 0 m [] H1') ∧ ∀ i m acc H, W i m acc H → H D = some (.lst acc) →
  (J.stop i H ∧ Q (.ref D) H) ∨ (J.go i H ∧ ∃ Nx : List V → Hp → Prop, (∀ acc' H', Nx acc' H' → ∃ m', m' < m ∧ W (i + 1) m' acc' H') ∧ ∀ x H', J.yld i H x H' → g x (wipe σ vs) H' fun σ2 H2 => wipe σ2 vs = wipe σ vs ∧ tt σ2 H2 fun b H3 =>
    if b = true then te σ2 H3 fun y H4 => H4 D = some (.lst acc) ∧ acc.length < sizeLine ∧ ∀ H5, SameBut D H4 H5 → H5 D = some (.lst (acc ++ [y])) → Nx (acc ++ [y]) H5 else H3 D = some (.lst acc) ∧ Nx acc H3)
theorem lc_of {wi : TI} {g : TG} {tt : TT} {te : TE} {vs : List Nat} {σ : St} {H : Hp} {Q : VK} (h : tLcN wi g tt te vs σ H Q) : tLc (upI wi) (upG g) (upT tt) (upE te) vs σ H Q := by
  refine ⟨_, h, fun J H1 q D hD => ?_⟩
  obtain ⟨W, ⟨m, w0⟩, step⟩ := q D _ hD (same_upd hD) upd_same
  refine ⟨fun i m H => ∃ acc, H D = some (.lst acc) ∧ W i m acc H, ⟨m, [], upd_same, w0⟩, ?_⟩
  rintro i m H ⟨acc, eD, w⟩
  rcases step i m acc H w eD with z | ⟨go, Nx, hN, z⟩
  · exact .inl z
  · refine .inr ⟨go, fun H' => ∃ acc, H' D = some (.lst acc) ∧ Nx acc H', ?_, fun x H' y => ⟨_, z x H' y, fun σ2 H2 q2 => ⟨q2.1, _, q2.2, fun b H3 q3 => ?_⟩⟩⟩
    · rintro H' ⟨acc', e', n'⟩
      obtain ⟨m', lt, w'⟩ := hN acc' H' n'
      exact ⟨m', lt, acc', e', w'⟩
    · cases b with
      | true =>
        rw [if_pos rfl] at q3
        rw [if_pos rfl]
        refine ⟨_, q3, fun y H4 ⟨e4, l4, q4⟩ => ⟨acc, e4, l4, acc ++ [y], upd_same, q4 _ .of_upd upd_same⟩⟩
      | false =>
        rw [if_neg Bool.false_ne_true] at q3
        rw [if_neg Bool.false_ne_true]
        exact ⟨acc, q3.1, q3.2⟩
theorem pe_lcN {elt tg iter : Expr} {ifs : List Expr} {scope : Scope} {own : List (Str × Nat)} {pos : Pos} {wi : TI} {g : TG} {tt : TT} {te : TE} (hc : X.calm = true) (hN : X.N.Nodup) (hi : PI X tg iter wi) (ok : BlkOk X.N X.env.scope scope own)
    (hg : ∀ (s : Shared) (H : Hp) (C : Addr) (cl : List (Str × Addr)) (fp : List Addr), PG (X.blk s H scope (compEnvC scope cl C X.env) fp) tg g) (ht : ∀ (s : Shared) (H : Hp) (C : Addr) (cl : List (Str × Addr)) (fp : List Addr), PTs (X.blk s H scope (compEnvC scope cl C X.env) fp) ifs tt)
    (he : ∀ (s : Shared) (H : Hp) (C : Addr) (cl : List (Str × Addr)) (fp : List Addr), PE (X.blk s H scope (compEnvC scope cl C X.env) fp) elt te) (hs : ∀ x, foldedSetIterable iter X.env x = pure x := by intro _; rfl) :
    PE X (.ListComp elt [⟨tg, iter, ifs, 0⟩] scope pos) (tLcN wi g tt te (own.map (·.2))) :=
  (pe_lc hc hN hi.up ok (fun s H C cl fp => (hg s H C cl fp).up) (fun s H C cl fp => (ht s H C cl fp).up) (fun s H C cl fp => (he s H C cl fp).up) hs).imp fun σ H Q q => lc_of q
theorem PS.imp {st : Stmt} {t t' : TS} (h : PS X st t) (f : ∀ D σ H, t' D σ H → t D σ H) : PS X st t' := ⟨fun pins s σ H D I q => h.run pins s σ H D I (f D σ H q)⟩
theorem ps_setLcN {i : Nat} {y : Str} {py : Pos} {elt tg iter : Expr} {ifs : List Expr} {scope : Scope} {own : List (Str × Nat)} {pos spos : Pos} {wi : TI} {g : TG} {tt : TT} {te : TE} (hc : X.calm = true) (hN : X.N.Nodup) (hy : X.N[i]? = some y) (hyl : X.env.scope.names.lookup y = some .local)
    (hsw : swapsWith (.ListComp elt [⟨tg, iter, ifs, 0⟩] scope pos) (some (.Name y py)) spos.line X.env = pure true) (hi : PI X tg iter wi) (ok : BlkOk X.N X.env.scope scope own)
    (hg : ∀ (s : Shared) (H : Hp) (C : Addr) (cl : List (Str × Addr)) (fp : List Addr), PG (X.blk s H scope (compEnvC scope cl C X.env) fp) tg g) (ht : ∀ (s : Shared) (H : Hp) (C : Addr) (cl : List (Str × Addr)) (fp : List Addr), PTs (X.blk s H scope (compEnvC scope cl C X.env) fp) ifs tt)
    (he : ∀ (s : Shared) (H : Hp) (C : Addr) (cl : List (Str × Addr)) (fp : List Addr), PE (X.blk s H scope (compEnvC scope cl C X.env) fp) elt te) (hs : ∀ x, foldedSetIterable iter X.env x = pure x := by intro _; rfl) :
    PS X (.Assign [.Name y py] (.ListComp elt [⟨tg, iter, ifs, 0⟩] scope pos) spos) (tAsg (tLcN wi g tt te (own.map (·.2))) (gName i)) :=
  (ps_setLc hc hN hy hyl hsw hi.up ok (fun s H C cl fp => (hg s H C cl fp).up) (fun s H C cl fp => (ht s H C cl fp).up) (fun s H C cl fp => (he s H C cl fp).up) hs).imp fun D σ H q => lc_of q
/-- walks of a list or a tuple -/
def iSq (K : PySem.W.Frag) (tl : TE) : TI := fun σ H R => tl σ H fun x H1 => ∃ a, x = .ref a ∧ ((∃ xs, SqL K H1 a xs ∧ R (Itl K a) H1) ∨ (∃ xs, SqT K H1 a xs ∧ R (Itt K a) H1))
theorem pi_sq {tg l : Expr} {tl : TE} (hl : PE X l tl) : PI X tg l (iSq X.K tl) := by
  refine ⟨fun pins s σ H R I h => ?_⟩
  refine thn (hl.run pins s σ H _ I h) fun v s1 ⟨x, H1, I1, r1, q1⟩ => ?_
  obtain ⟨a, e, ⟨xs, hq, q⟩ | ⟨xs, hq, q⟩⟩ := q1
  · subst e
    cases r1
    obtain ⟨its, rv, p, hz⟩ := I1.list hq
    refine wpAny_pyIter_list p.isList ?_
    refine ⟨s1.heap.objs.size, [s1.heap.objs.size], _, _, H1, rfl, I1.kept (t' := s1.toks) fun b o e => Heap.get?_push_of_some _ e, turn_list a _, ⟨_, Heap.get?_push_size _ rfl, rfl, rfl⟩, fun b hb => ?_, q⟩
    have e : b = s1.heap.objs.size := by simpa using hb
    subst e
    exact I1.fpOk (Nat.le_refl _) (I1.hok.fresh (Nat.le_refl _))
  · subst e
    cases r1
    obtain ⟨its, rv, p, hz⟩ := I1.tuple hq
    refine wpAny_pyIter_tuple (show s1.heap.IsTuple a its.toArray from p) ?_
    refine ⟨s1.heap.objs.size, [s1.heap.objs.size], _, _, H1, rfl, I1.kept (t' := s1.toks) fun b o e => Heap.get?_push_of_some _ e, turn_tuple a _, ⟨_, Heap.get?_push_size _ rfl, rfl, rfl⟩, fun b hb => ?_, q⟩
    have e : b = s1.heap.objs.size := by simpa using hb
    subst e
    exact I1.fpOk (Nat.le_refl _) (I1.hok.fresh (Nat.le_refl _))
end
/-! ### loops -/
theorem len_big {n : Nat} (h : n ≤ 1000000) : n < sizeLine := Nat.lt_of_le_of_lt h (by decide)
section
variable {K : PySem.W.Frag} {g : TG} {tt : TT} {te : TE} {vs : List Nat} {σ : St} {H1 : Hp} {D a : Addr} {xs ys : List V} {Qd : Hp → Prop}
/-- what a comprehension's reading asks behind its walk J -/
abbrev LcGoal (J : It) (g : TG) (tt : TT) (te : TE) (vs : List Nat) (σ : St) (H1' : Hp) (D : Addr) (Qd : Hp → Prop) : Prop := ∃ W : Nat → Nat → List V → Hp → Prop, (∃ m, W 0 m [] H1') ∧ ∀ i m acc H, W i m acc H → H D = some (.lst acc) →
  (J.stop i H ∧ Qd H) ∨ (J.go i H ∧ ∃ Nx : List V → Hp → Prop, (∀ acc' H', Nx acc' H' → ∃ m', m' < m ∧ W (i + 1) m' acc' H') ∧ ∀ x H', J.yld i H x H' → g x (wipe σ vs) H' fun σ2 H2 => wipe σ2 vs = wipe σ vs ∧ tt σ2 H2 fun b H3 =>
    if b = true then te σ2 H3 fun y H4 => H4 D = some (.lst acc) ∧ acc.length < sizeLine ∧ ∀ H5, SameBut D H4 H5 → H5 D = some (.lst (acc ++ [y])) → Nx (acc ++ [y]) H5 else H3 D = some (.lst acc) ∧ Nx acc H3)
/-- over a range: I of the turn, what is made so far, the heap -/
theorem lcN_range {lo : Int} {n : Nat} (I : Nat → List V → Hp → Prop) (h0 : I 0 [] H1)
    (hs : ∀ i acc H, i < n → I i acc H → H D = some (.lst acc) → g (.int (lo + i)) (wipe σ vs) H fun σ2 H2 => wipe σ2 vs = wipe σ vs ∧ tt σ2 H2 fun b H3 =>
      if b = true then te σ2 H3 fun y H4 => H4 D = some (.lst acc) ∧ acc.length < sizeLine ∧ ∀ H5, SameBut D H4 H5 → H5 D = some (.lst (acc ++ [y])) → I (i + 1) (acc ++ [y]) H5 else H3 D = some (.lst acc) ∧ I (i + 1) acc H3)
    (hd : ∀ acc H, I n acc H → H D = some (.lst acc) → Qd H) : LcGoal (Itr lo n) g tt te vs σ H1 D Qd := by
  refine ⟨fun i m acc H => m = n - i ∧ i ≤ n ∧ I i acc H, ⟨n, by simp, Nat.zero_le _, h0⟩, ?_⟩
  rintro i m acc H ⟨rfl, hi, p⟩ eD
  by_cases hlt : i < n
  · refine .inr ⟨hlt, I (i + 1), fun acc' H' p' => ⟨n - (i + 1), by omega, rfl, hlt, p'⟩, fun x H' y => ?_⟩
    obtain ⟨e, y⟩ := y
    subst e y
    exact hs i acc _ hlt p eD
  · have e : i = n := by omega
    subst e
    exact .inl ⟨Nat.le_refl _, hd acc H p eD⟩
theorem lcN_list (I : Nat → List V → Hp → Prop) (h0 : I 0 [] H1) (hl : ∀ i acc H, i ≤ xs.length → I i acc H → H D = some (.lst acc) → SqL K H a xs)
    (hs : ∀ i x acc H, xs[i]? = some x → I i acc H → H D = some (.lst acc) → g x (wipe σ vs) H fun σ2 H2 => wipe σ2 vs = wipe σ vs ∧ tt σ2 H2 fun b H3 =>
      if b = true then te σ2 H3 fun y H4 => H4 D = some (.lst acc) ∧ acc.length < sizeLine ∧ ∀ H5, SameBut D H4 H5 → H5 D = some (.lst (acc ++ [y])) → I (i + 1) (acc ++ [y]) H5 else H3 D = some (.lst acc) ∧ I (i + 1) acc H3)
    (hd : ∀ acc H, I xs.length acc H → H D = some (.lst acc) → Qd H) : LcGoal (Itl K a) g tt te vs σ H1 D Qd := by
  refine ⟨fun i m acc H => m = xs.length - i ∧ i ≤ xs.length ∧ I i acc H, ⟨xs.length, by simp, Nat.zero_le _, h0⟩, ?_⟩
  rintro i m acc H ⟨rfl, hi, p⟩ eD
  have q := hl i acc H hi p eD
  by_cases hlt : i < xs.length
  · refine .inr ⟨⟨xs, xs[i], q, by simp [hlt]⟩, I (i + 1), fun acc' H' p' => ⟨xs.length - (i + 1), by omega, rfl, hlt, p'⟩, fun x H' y => ?_⟩
    obtain ⟨e, y⟩ := y
    subst e
    exact hs i x acc _ (y xs q) p eD
  · have e : i = xs.length := by omega
    subst e
    exact .inl ⟨⟨xs, q, Nat.le_refl _⟩, hd acc H p eD⟩
theorem lcN_tup (I : Nat → List V → Hp → Prop) (h0 : I 0 [] H1) (hl : ∀ i acc H, i ≤ xs.length → I i acc H → H D = some (.lst acc) → SqT K H a xs)
    (hs : ∀ i x acc H, xs[i]? = some x → I i acc H → H D = some (.lst acc) → g x (wipe σ vs) H fun σ2 H2 => wipe σ2 vs = wipe σ vs ∧ tt σ2 H2 fun b H3 =>
      if b = true then te σ2 H3 fun y H4 => H4 D = some (.lst acc) ∧ acc.length < sizeLine ∧ ∀ H5, SameBut D H4 H5 → H5 D = some (.lst (acc ++ [y])) → I (i + 1) (acc ++ [y]) H5 else H3 D = some (.lst acc) ∧ I (i + 1) acc H3)
    (hd : ∀ acc H, I xs.length acc H → H D = some (.lst acc) → Qd H) : LcGoal (Itt K a) g tt te vs σ H1 D Qd := by
  refine ⟨fun i m acc H => m = xs.length - i ∧ i ≤ xs.length ∧ I i acc H, ⟨xs.length, by simp, Nat.zero_le _, h0⟩, ?_⟩
  rintro i m acc H ⟨rfl, hi, p⟩ eD
  have q := hl i acc H hi p eD
  by_cases hlt : i < xs.length
  · refine .inr ⟨⟨xs, xs[i], q, by simp [hlt]⟩, I (i + 1), fun acc' H' p' => ⟨xs.length - (i + 1), by omega, rfl, hlt, p'⟩, fun x H' y => ?_⟩
    obtain ⟨e, y⟩ := y
    subst e
    exact hs i x acc _ (y xs q) p eD
  · have e : i = xs.length := by omega
    subst e
    exact .inl ⟨⟨xs, q, Nat.le_refl _⟩, hd acc H p eD⟩
/-- over zip of two tuples: the items x, y of each turn; T the pair -/
theorem lcN_zipT {b : Addr} (I : Nat → List V → Hp → Prop) (h0 : I 0 [] H1) (hl : ∀ i acc H, i ≤ min xs.length ys.length → I i acc H → H D = some (.lst acc) → SqT K H a xs ∧ SqT K H b ys)
    (hs : ∀ i x y acc H H2 T, xs[i]? = some x → ys[i]? = some y → I i acc H → H D = some (.lst acc) → Same H H2 → SqT K H2 T [x, y] → g (.ref T) (wipe σ vs) H2 fun σ2 H2 => wipe σ2 vs = wipe σ vs ∧ tt σ2 H2 fun b H3 =>
      if b = true then te σ2 H3 fun y H4 => H4 D = some (.lst acc) ∧ acc.length < sizeLine ∧ ∀ H5, SameBut D H4 H5 → H5 D = some (.lst (acc ++ [y])) → I (i + 1) (acc ++ [y]) H5 else H3 D = some (.lst acc) ∧ I (i + 1) acc H3)
    (hd : ∀ acc H, I (min xs.length ys.length) acc H → H D = some (.lst acc) → Qd H) : LcGoal (ItzT K a b) g tt te vs σ H1 D Qd := by
  refine ⟨fun i m acc H => m = min xs.length ys.length - i ∧ i ≤ min xs.length ys.length ∧ I i acc H, ⟨min xs.length ys.length, by simp, Nat.zero_le _, h0⟩, ?_⟩
  rintro i m acc H ⟨rfl, hi, p⟩ eD
  obtain ⟨q, q'⟩ := hl i acc H hi p eD
  by_cases hlt : i < min xs.length ys.length
  · have h1 : i < xs.length := by omega
    have h2 : i < ys.length := by omega
    refine .inr ⟨⟨xs, ys, xs[i], ys[i], q, q', by simp [h1], by simp [h2]⟩, I (i + 1), fun acc' H' p' => ⟨min xs.length ys.length - (i + 1), by omega, rfl, hlt, p'⟩, fun x H' y => ?_⟩
    obtain ⟨T, x1, x2, rfl, nT, rfl, f1, f2⟩ := y
    exact hs i x1 x2 acc H _ T (f1 _ q) (f2 _ q') p eD (same_upd nT) (.inl (.inl upd_same))
  · have e : i = min xs.length ys.length := by omega
    subst e
    refine .inl ⟨⟨xs, ys, q, q', by omega⟩, hd acc H p eD⟩
end
/-- a pair unpacked into two names -/
theorem g_pair {K : PySem.W.Frag} {i j : Nat} {σ : St} {H : Hp} {T : Addr} {x y : V} {Q : St → Hp → Prop} (hT : SqT K H T [x, y]) (q : Q ((σ.set i (some x)).set j (some y)) H) : gTup K 2 (gCons (gName i) (gCons (gName j) gNil)) (.ref T) σ H Q :=
  ⟨T, [x, y], rfl, hT, rfl, x, [y], rfl, y, [], rfl, rfl, q⟩
/-! ### the same rules, the written part a letter of its own (within a comprehension's block) -/
section
variable {X : Cx} {K : PySem.W.Frag}
theorem ix_listK (hK : X.K = K := by rfl) : IxR X (rIxL K) := hK ▸ ix_list
theorem ix_tupK (hK : X.K = K := by rfl) : IxR X (rIxT K) := hK ▸ ix_tup
theorem sl_listK (hK : X.K = K := by rfl) : SlR X (rSlL2 K) := hK ▸ sl_listN
theorem sl_tupK (hK : X.K = K := by rfl) : SlR X (rSlT2 K) := hK ▸ sl_tupN
def rLenN (K : PySem.W.Frag) : List V → Hp → VK → Prop := fun xs H Q => ∃ p ys, xs = [.ref p] ∧ Sq K H p ys ∧ Q (.int ys.length) H
theorem call_lenK (hK : X.K = K := by rfl) : CallR X (.builtin "len") (rLenN K) := hK ▸ call_lenN
def rListN (K : PySem.W.Frag) : List V → Hp → VK → Prop := fun xs H Q => ∃ p ys, xs = [.ref p] ∧ Sq K H p ys ∧ NewL ys H Q
theorem call_listK (hK : X.K = K := by rfl) : CallR X (.type "list") (rListN K) := hK ▸ call_listN
def rTupleN (K : PySem.W.Frag) : List V → Hp → VK → Prop := fun xs H Q => ∃ p ys, xs = [.ref p] ∧ Sq K H p ys ∧ NewT K ys H Q
theorem call_tupleK (hK : X.K = K := by rfl) : CallR X (.type "tuple") (rTupleN K) := hK ▸ call_tupleN
theorem op_repAK (hK : X.K = K := by rfl) : OpR X (binaryOp .Mult) (rRepA K) := hK ▸ op_repA
theorem op_catTK (hK : X.K = K := by rfl) : OpR X (binaryOp .Add) (rCatT2 K) := hK ▸ op_catTN
theorem op_eqDK (hu : X.A.units + 64 < cLine) (hK : X.K = K := by rfl) : OpR X (compareOp .Eq) (rEqD K) := hK ▸ op_eqD hu
theorem op_neDK (hu : X.A.units + 64 < cLine) (hK : X.K = K := by rfl) : OpR X (compareOp .NotEq) (rNeD K) := hK ▸ op_neD hu
theorem op_inK (hK : X.K = K := by rfl) : OpR X (compareOp .In) (rIn K false) := hK ▸ op_in_seq
theorem op_notInK (hK : X.K = K := by rfl) : OpR X (compareOp .NotIn) (rIn K true) := hK ▸ op_notIn_seq
theorem call_sumK (hc : X.calm = true) (hK : X.K = K := by rfl) : CallR X (.builtin "sum") (rSum K) := hK ▸ cr_sum hc
theorem call_maxK (hc : X.calm = true) (hK : X.K = K := by rfl) : CallR X (.builtin "max") (rMax K) := hK ▸ cr_max hc
theorem call_allK (hc : X.calm = true) (hK : X.K = K := by rfl) : CallR X (.builtin "all") (rAll K) := hK ▸ cr_all hc
theorem call_anyK (hc : X.calm = true) (hK : X.K = K := by rfl) : CallR X (.builtin "any") (rAny K) := hK ▸ cr_any hc
theorem pe_tupK {es : List Expr} {t : TA} {x1} {pos : Pos} (h : PA X es t) (hK : X.K = K := by rfl) : PE X (.Tuple es x1 pos) (tTupN K t) := hK ▸ pe_tupN h
theorem pe_fldK {e : Expr} {f : Str} {pos : Pos} {ta : TE} (he : PE X e ta) (hb : attributeBase e f X.env (eval e X.env) = eval e X.env) (hK : X.K = K := by rfl) : PE X (.Attribute e f pos) (tFld K ta f) := hK ▸ pe_fld he hb
theorem pi_listK {tg l : Expr} {tl : TE} (hl : PE X l tl) (hK : X.K = K := by rfl) : PI X tg l (iList K tl) := hK ▸ pi_list hl
theorem pi_tupK {tg l : Expr} {tl : TE} (hl : PE X l tl) (hK : X.K = K := by rfl) : PI X tg l (iTup K tl) := hK ▸ pi_tup hl
theorem pi_sqK {tg l : Expr} {tl : TE} (hl : PE X l tl) (hK : X.K = K := by rfl) : PI X tg l (iSq K tl) := hK ▸ pi_sq hl
theorem pt_truthK {e : Expr} {te : TE} (he : PE X e te) (hw : ∀ whole, isTrue e X.env whole = (do let v ← whole; standAt e.pos; holding [v] (truthy v))) (hK : X.K = K := by rfl) : PT X e (fun σ H Q => te σ H fun x H' => ∃ k, TruV K x H' k ∧ Q k H') := hK ▸ pt_truth he hw
theorem pg_pair {i j : Nat} {x y : Str} {p1 p2 pos : Pos} {kk : Nat} (hc : X.calm = true) (hN : X.N.Nodup) (hi : X.N[i]? = some x) (hj : X.N[j]? = some y) (hx : Loc X.env.scope x) (hy : Loc X.env.scope y)
    (hf : X.fn x = true ∨ X.env.scope.names.lookup x = some .local := by first | exact .inl rfl | exact .inr rfl | assumption) (hf2 : X.fn y = true ∨ X.env.scope.names.lookup y = some .local := by first | exact .inl rfl | exact .inr rfl | assumption) (hK : X.K = K := by rfl) :
    PG X (.Tuple [.Name x p1, .Name y p2] kk pos) (gTup K 2 (gCons (gName i) (gCons (gName j) gNil))) := hK ▸ pg_tup hc (pgs_cons (pg_name hN hi hx hf) (pgs_cons (pg_name hN hj hy hf2) pgs_nil))
end
section
variable {X : Cx}
/-- an if whose two ways meet again: J holds where they meet -/
def tIfJ (c : TT) (t u : TS) : TS := fun D σ H => ∃ J : L2.St → Hp → Prop, (c σ H fun b H1 => if b = true then t { D with nx := J } σ H1 else u { D with nx := J } σ H1) ∧ ∀ σ' H', J σ' H' → D.nx σ' H'
theorem ps_ifJ {c : Expr} {a b : List Stmt} {pos : Pos} {tc : TT} {t u : TS} (hc : PT X c tc) (ha : PSs X a t) (hb : PSs X b u) : PS X (.If c a b pos) (tIfJ tc t u) := ⟨fun pins s σ H D I ⟨J, h, f⟩ => thn ((ps_if hc ha hb).run pins s σ H { D with nx := J } I h) fun fl s' z => by
  cases fl with
  | next => obtain ⟨σ', H', I', q⟩ := z; exact ⟨σ', H', I', f _ _ q⟩
  | brk => exact z
  | cont => exact z
  | ret v => exact z⟩
end
end L2

set_option Elab.async false
set_option linter.all false
set_option maxRecDepth 100000
set_option maxHeartbeats 4000000
namespace Pl
open PySem PySem.Spec PyProof.Rows L2 RZ
/-! ### the empty tuple of a default -/
def tupB0 (K : PySem.W.Frag) (a : Addr) : Bool := match K.lookup a with
  | some ⟨.type c, _, .seq its _, _⟩ => decide (c = "tuple") && decide (its = #[])
  | _ => false
theorem tupB0_ok {K : PySem.W.Frag} {a : Addr} (h : tupB0 K a = true) (H : Hp) : SqT K H a [] := by
  unfold tupB0 at h
  cases q : K.lookup a with
  | none => rw [q] at h; cases h
  | some o =>
    obtain ⟨oc, od, dt, sl⟩ := o
    rw [q] at h
    cases oc with
    | type c =>
      cases dt with
      | seq its n =>
        have h' : (decide (c = "tuple") && decide (its = #[])) = true := h
        rw [Bool.and_eq_true] at h'
        obtain ⟨h1, h2⟩ := h'
        have e1 := of_decide_eq_true h1
        have e2 := of_decide_eq_true h2
        subst e1 e2
        exact .inr ⟨_, #[], n, q, rfl, rfl, Nat.zero_le _, .nil⟩
      | _ => cases h
    | _ => cases dt <;> cases h
/-! ### what stands still while the pen is used -/
def PenSh (o : HO) : Prop := ∃ c i x k, o = .lst [.ref c, .int i, .int x, .int k]
def Keep (H H' : Hp) : Prop := ∀ b o, H b = some o → ¬ PenSh o → H' b = some o
theorem keep_of {H H' : Hp} (s : Same H H') : Keep H H' := fun b o e _ => s b o e
theorem Keep.trans {H H1 H2 : Hp} (a : Keep H H1) (b : Keep H1 H2) : Keep H H2 := fun c o e n => b c o (a c o e n) n
theorem Keep.refl (H : Hp) : Keep H H := fun _ _ e _ => e
theorem Keep.seqT {K : PySem.W.Frag} {H H' : Hp} {a : Addr} {xs : List V} (e : Keep H H') (h : SqT K H a xs) : SqT K H' a xs := by
  rcases h with (h | ⟨o, h⟩) | h
  · exact .inl (.inl (e _ _ h (by rintro ⟨_, _, _, _, z⟩; cases z)))
  · exact .inl (.inr ⟨o, e _ _ h (by rintro ⟨_, _, _, _, z⟩; cases z)⟩)
  · exact .inr h
/-- a list that is no pen -/
def NoPen (xs : List V) : Prop := ∀ c i x k, xs ≠ [.ref c, .int i, .int x, .int k]
theorem noPen_ints (ns : List Int) : NoPen (ns.map V.int) := by
  intro c i x k e
  cases ns with
  | nil => cases e
  | cons a r => cases e
theorem noPen_refs (ns : List Addr) : NoPen (ns.map V.ref) := by
  intro c i x k e
  cases ns with
  | nil => cases e
  | cons a r =>
    cases r with
    | nil => cases e
    | cons b r => cases e
theorem Keep.lst {H H' : Hp} {a : Addr} {xs : List V} (e : Keep H H') (n : NoPen xs) (h : H a = some (.lst xs)) : H' a = some (.lst xs) := e _ _ h (by
  rintro ⟨c, i, x, k, z⟩
  injection z with z
  exact n c i x k z)
theorem Keep.seqL {K : PySem.W.Frag} {H H' : Hp} {a : Addr} {xs : List V} (e : Keep H H') (n : NoPen xs) (h : SqL K H a xs) : SqL K H' a xs := by
  rcases h with (h | ⟨o, h⟩) | h
  · exact .inl (.inl (e.lst n h))
  · exact .inl (.inr ⟨o, e _ _ h (by rintro ⟨_, _, _, _, z⟩; cases z)⟩)
  · exact .inr h
theorem Keep.ins {H H' : Hp} {a C dx : Addr} {fs : List (Str × V)} (e : Keep H H') (h : H a = some (.ins C dx fs)) : H' a = some (.ins C dx fs) := e _ _ h (by rintro ⟨_, _, _, _, z⟩; cases z)
theorem Keep.but {H H1 H2 : Hp} {l : Addr} (s : Keep H H1) (hl : H l = none) (b : SameBut l H1 H2) : Keep H H2 := fun c o e n => b c o (ne_of_none e hl) (s c o e n)
/-! ### the pen: a list of the numbers, the next one's place, the number that is drawn from, a count -/
def Pn (H : Hp) (pen c : Addr) (n : Nat) : Prop := ∃ (zs : List Int) (i x k : Int), H pen = some (.lst [.ref c, .int i, .int x, .int k]) ∧ H c = some (.lst (zs.map V.int)) ∧ zs.length ≤ 63 ∧ 1 ≤ i ∧ 0 ≤ k ∧ k ≤ (n : Int)
theorem Pn.mono {H : Hp} {pen c : Addr} {n m : Nat} (h : Pn H pen c n) (l : n ≤ m) : Pn H pen c m := by
  obtain ⟨zs, i, x, k, h1, h2, h3, h4, h5, h6⟩ := h
  exact ⟨zs, i, x, k, h1, h2, h3, h4, h5, by omega⟩
theorem Pn.same {H H' : Hp} {pen c : Addr} {n : Nat} (s : Same H H') (h : Pn H pen c n) : Pn H' pen c n := by
  obtain ⟨zs, i, x, k, h1, h2, h3⟩ := h
  exact ⟨zs, i, x, k, s _ _ h1, s _ _ h2, h3⟩
/-- D new behind H0, where the pen stood -/
theorem Pn.but {H0 H H' : Hp} {pen c D : Addr} {n m : Nat} (h0 : Pn H0 pen c m) (hD : H0 D = none) (b : SameBut D H H') (h : Pn H pen c n) : Pn H' pen c n := by
  obtain ⟨zs, i, x, k, h1, h2, h3⟩ := h
  obtain ⟨_, _, _, _, g1, g2, _⟩ := h0
  exact ⟨zs, i, x, k, b _ _ (ne_of_none g1 hD) h1, b _ _ (ne_of_none g2 hD) h2, h3⟩
/-! ### rows -/
def RowF (t : Addr) : List (Str × V) := [("entries", .ref t)]
def RowAt (K : PySem.W.Frag) (H : Hp) (p : Addr) (ns : List Int) : Prop := ∃ dx t, H p = some (.ins (He.ga K "Row") dx (RowF t)) ∧ SqT K H t (ns.map V.int)
theorem RowAt.same {K : PySem.W.Frag} {H H' : Hp} {p : Addr} {ns : List Int} (s : Same H H') (h : RowAt K H p ns) : RowAt K H' p ns := by
  obtain ⟨dx, t, h1, h2⟩ := h
  exact ⟨dx, t, s _ _ h1, s.seqT h2⟩
theorem RowAt.keep {K : PySem.W.Frag} {H H' : Hp} {p : Addr} {ns : List Int} (s : Keep H H') (h : RowAt K H p ns) : RowAt K H' p ns := by
  obtain ⟨dx, t, h1, h2⟩ := h
  exact ⟨dx, t, s.ins h1, s.seqT h2⟩
/-! ### without the zeros at the end -/
def stpN (xs : List Int) : Nat → Nat
  | 0 => 0
  | n + 1 => if xs.getD n 0 = 0 then stpN xs n else n + 1
def stp (xs : List Int) : List Int := xs.take (stpN xs xs.length)
theorem stpN_le (xs : List Int) : ∀ n, stpN xs n ≤ n
  | 0 => Nat.le_refl _
  | n + 1 => by
    unfold stpN
    split
    · exact Nat.le_succ_of_le (stpN_le xs n)
    · exact Nat.le_refl _
theorem stpN_zero (xs : List Int) : ∀ n i, stpN xs n ≤ i → i < n → xs.getD i 0 = 0
  | 0, i, _, h => absurd h (Nat.not_lt_zero _)
  | n + 1, i, h1, h2 => by
    unfold stpN at h1
    split at h1
    · rename_i z
      by_cases e : i = n
      · rw [e]; exact z
      · exact stpN_zero xs n i h1 (by omega)
    · omega
theorem stp_length (xs : List Int) : (stp xs).length ≤ xs.length := by
  unfold stp
  rw [List.length_take]
  exact Nat.min_le_right _ _
theorem stp_get (xs : List Int) (i : Nat) : (stp xs).getD i 0 = xs.getD i 0 := by
  unfold stp
  by_cases h : i < stpN xs xs.length
  · rw [List.getD_eq_getElem?_getD, List.getD_eq_getElem?_getD, List.getElem?_take, if_pos h]
  · have e : (xs.take (stpN xs xs.length)).getD i 0 = 0 := by
      rw [List.getD_eq_getElem?_getD, List.getElem?_take, if_neg h] <;> rfl
    rw [e]
    by_cases h2 : i < xs.length
    · exact (stpN_zero xs _ i (by omega) h2).symm
    · rw [List.getD_eq_getElem?_getD, List.getElem?_eq_none (by omega)] <;> rfl
/-! ### carries -/
/-- the carry into lane n: (entry + carry) / B, from 0 on -/
def car (xs : List Int) (w : Nat) : Nat → Int
  | 0 => 0
  | n + 1 => (xs.getD n 0 + car xs w n) / 2 ^ w
theorem car_congr {xs ys : List Int} (w : Nat) (h : ∀ i, xs.getD i 0 = ys.getD i 0) : ∀ n, car xs w n = car ys w n
  | 0 => rfl
  | n + 1 => by
    unfold car
    rw [h n, car_congr w h n]
theorem car_stp (xs : List Int) (w n : Nat) : car (stp xs) w n = car xs w n := car_congr w (stp_get xs) n
theorem car_far (xs : List Int) (w n : Nat) : ∀ m, xs.length ≤ n → car xs w (n + m) = car xs w n / 2 ^ (w * m)
  | 0, _ => by
    rw [Nat.mul_zero]
    show car xs w n = car xs w n / 1
    omega
  | m + 1, h => by
    have ih := car_far xs w n m h
    show (xs.getD (n + m) 0 + car xs w (n + m)) / 2 ^ w = _
    have e : xs.getD (n + m) 0 = 0 := by
      rw [List.getD_eq_getElem?_getD, List.getElem?_eq_none (by omega)] <;> rfl
    have hp : (0 : Int) < 2 ^ (w * m) := Int.pow_pos (by decide)
    rw [e, ih, Int.zero_add, Int.ediv_ediv, if_neg (fun z => by omega), Int.sub_zero, ← Int.pow_add, Nat.mul_succ]
theorem rowF_look (t : Addr) : (RowF t).lookup ("entries" : Str) = some (.ref t) := by simp [RowF, List.lookup]
theorem stpN_stop {xs : List Int} {k : Nat} (h : k = 0 ∨ xs.getD (k - 1) 0 ≠ 0) : stpN xs k = k := by
  cases k with
  | zero => rfl
  | succ n =>
    have h2 : xs.getD n 0 ≠ 0 := h.resolve_left (by omega)
    unfold stpN
    rw [if_neg h2]
/-! ### items, slices -/
theorem map_get {xs : List Int} {i : Nat} {x : V} (h : (xs.map V.int)[i]? = some x) : ∃ u, xs[i]? = some u ∧ x = .int u := by
  rw [List.getElem?_map] at h
  cases e : xs[i]? with
  | none => rw [e] at h; cases h
  | some u => rw [e] at h; exact ⟨u, rfl, (Option.some.inj h).symm⟩
theorem map_getR {xs : List Addr} {i : Nat} {x : V} (h : (xs.map V.ref)[i]? = some x) : ∃ u, xs[i]? = some u ∧ x = .ref u := by
  rw [List.getElem?_map] at h
  cases e : xs[i]? with
  | none => rw [e] at h; cases h
  | some u => rw [e] at h; exact ⟨u, rfl, (Option.some.inj h).symm⟩
theorem at_ints {xs : List Int} {z : Int} {n : Nat} (e : z = (n : Int)) (h : n < xs.length) : atI (xs.map V.int) z = some (.int (xs.getD n 0)) := by
  refine at_of e ?_
  rw [List.getElem?_map, List.getD_eq_getElem?_getD, List.getElem?_eq_getElem h] <;> rfl
theorem cut_to (xs : List V) (k : Nat) : cutV xs none (some (k : Int)) = xs.take k := by
  unfold cutV
  rw [HT.sIx_nat, HT.sIx_none, List.drop_zero, Nat.sub_zero]
  by_cases h : k ≤ xs.length
  · rw [Nat.min_eq_left h]
  · rw [Nat.min_eq_right (by omega), List.take_of_length_le (Nat.le_refl _), List.take_of_length_le (by omega)]
theorem cut_from (xs : List V) (k : Nat) : cutV xs (some (k : Int)) none = xs.drop k := by
  unfold cutV
  rw [HT.sIx_nat, HT.sIx_none]
  by_cases h : k ≤ xs.length
  · rw [Nat.min_eq_left h, List.take_of_length_le (by rw [List.length_drop]; omega)]
  · rw [Nat.min_eq_right (by omega), Nat.sub_self, List.take_zero, List.drop_of_length_le (by omega)]
theorem iteB {c : Prop} [Decidable c] {A B : Prop} (h1 : c → A) (h2 : ¬ c → B) : if decide c = true then A else B := by
  by_cases h : c
  · rw [decide_eq_true h, if_pos rfl]
    exact h1 h
  · rw [decide_eq_false h, if_neg Bool.false_ne_true]
    exact h2 h
/-! ### sums of rows -/
def addL (xs ys : List Int) : List Int := List.zipWith (· + ·) xs ys ++ xs.drop ys.length ++ ys.drop xs.length
theorem addL_length (xs ys : List Int) : (addL xs ys).length = max xs.length ys.length := by
  unfold addL
  rw [List.length_append, List.length_append, List.length_zipWith, List.length_drop, List.length_drop]
  omega
theorem addL_get (xs ys : List Int) (i : Nat) : (addL xs ys).getD i 0 = xs.getD i 0 + ys.getD i 0 := by
  unfold addL
  simp only [List.getD_eq_getElem?_getD]
  by_cases h1 : i < xs.length <;> by_cases h2 : i < ys.length
  · rw [List.append_assoc, List.getElem?_append_left (by rw [List.length_zipWith]; omega), List.getElem?_zipWith, List.getElem?_eq_getElem h1, List.getElem?_eq_getElem h2] <;> rfl
  · rw [List.append_assoc, List.getElem?_append_right (by rw [List.length_zipWith]; omega), List.length_zipWith, List.getElem?_append_left (by rw [List.length_drop]; omega), List.getElem?_drop,
      show ys.length + (i - min xs.length ys.length) = i by omega, List.getElem?_eq_getElem h1, List.getElem?_eq_none (show ys.length ≤ i by omega)]
    show _ = _ + 0
    rw [Int.add_zero]
  · rw [List.getElem?_append_right (by rw [List.length_append, List.length_zipWith, List.length_drop]; omega), List.length_append, List.length_zipWith, List.length_drop, List.getElem?_drop,
      show xs.length + (i - (min xs.length ys.length + (xs.length - ys.length))) = i by omega, List.getElem?_eq_getElem h2, List.getElem?_eq_none (show xs.length ≤ i by omega)]
    show _ = 0 + _
    rw [Int.zero_add]
  · rw [List.getElem?_eq_none (by rw [List.length_append, List.length_append, List.length_zipWith, List.length_drop, List.length_drop]; omega), List.getElem?_eq_none (show xs.length ≤ i by omega), List.getElem?_eq_none (show ys.length ≤ i by omega)] <;> rfl
theorem take_snoc {α : Type} {l : List α} {i : Nat} {x : α} (h : l[i]? = some x) : l.take (i + 1) = l.take i ++ [x] := by
  rw [List.take_add_one, h] <;> rfl
theorem small {n : Nat} (h : n ≤ 1000000) : n ≤ sizeLine := Nat.le_of_lt (len_big h)
theorem yesT {σ : L2.St} {H : Hp} {F G : Hp → Prop} (h : F H) : tYes σ H (fun b H3 => if b = true then F H3 else G H3) := by
  show (if true = true then F H else G H)
  rw [if_pos rfl]
  exact h
theorem rep0 (n : Nat) : (List.replicate n [V.int 0]).flatten = (List.replicate n (0 : Int)).map V.int := by
  rw [List.map_replicate]
  induction n with
  | zero => rfl
  | succ k ih =>
    rw [List.replicate_succ, List.replicate_succ, List.flatten_cons, ih]
    rfl
/-! ### comparisons of rows of ints -/
theorem dpAll_ints {K : PySem.W.Frag} {H : Hp} : ∀ ns : List Int, DpAll K H (ns.map V.int) (ns.map PyData.int)
  | [] => .nil
  | a :: r => .cons (.int a) (dpAll_ints r)
theorem dp_list {K : PySem.W.Frag} {H : Hp} {a : Addr} {ns : List Int} (h : SqL K H a (ns.map V.int)) : Dp K H (.ref a) (.list (ns.map PyData.int)) := .lst h (dpAll_ints ns)
theorem dp_tup {K : PySem.W.Frag} {H : Hp} {a : Addr} {ns : List Int} (h : SqT K H a (ns.map V.int)) : Dp K H (.ref a) (.tuple (ns.map PyData.int)) := .tup h (dpAll_ints ns)
theorem sh_list (ns : List Int) : SeqAt.shaped (.list (ns.map PyData.int)) = true := PySem.W.ke_shaped_ints ns
theorem sh_tup (ns : List Int) : SeqAt.shaped (.tuple (ns.map PyData.int)) = true := by
  have h := PySem.W.ke_shaped_ints ns
  unfold SeqAt.shaped at h ⊢
  simpa [PyData.canLay0, PyData.depth] using h
theorem eqv_list (ns ms : List Int) : PyData.eqv (.list (ns.map PyData.int)) (.list (ms.map PyData.int)) = decide (ns = ms) := by
  simp only [PyData.eqv]
  exact PySem.W.ked_eqvAll ns ms
theorem eqv_tup (ns ms : List Int) : PyData.eqv (.tuple (ns.map PyData.int)) (.tuple (ms.map PyData.int)) = decide (ns = ms) := by
  simp only [PyData.eqv]
  exact PySem.W.ked_eqvAll ns ms
/-! ### several rows at once -/
def LsAt (R : Addr → List Int → Prop) (as : List Addr) (xss : List (List Int)) : Prop := as.length = xss.length ∧ ∀ (i : Nat) (a : Addr) (xs : List Int), as[i]? = some a → xss[i]? = some xs → R a xs
theorem LsAt.nil {R : Addr → List Int → Prop} : LsAt R [] [] := ⟨rfl, fun i a xs h => by simp at h⟩
theorem LsAt.snoc {R : Addr → List Int → Prop} {as : List Addr} {xss : List (List Int)} {a : Addr} {xs : List Int} (h : LsAt R as xss) (r : R a xs) : LsAt R (as ++ [a]) (xss ++ [xs]) := by
  refine ⟨by rw [List.length_append, List.length_append, h.1] <;> rfl, fun i b ys e1 e2 => ?_⟩
  by_cases l : i < as.length
  · rw [List.getElem?_append_left l] at e1
    rw [List.getElem?_append_left (by rw [← h.1]; exact l)] at e2
    exact h.2 i b ys e1 e2
  · rw [List.getElem?_append_right (by omega)] at e1
    rw [List.getElem?_append_right (by rw [← h.1]; omega), ← h.1] at e2
    cases q : i - as.length with
    | zero =>
      rw [q] at e1 e2
      cases e1
      cases e2
      exact r
    | succ k =>
      rw [q] at e1
      simp at e1
theorem LsAt.mono {R R' : Addr → List Int → Prop} {as : List Addr} {xss : List (List Int)} (h : LsAt R as xss) (f : ∀ a xs, R a xs → R' a xs) : LsAt R' as xss := ⟨h.1, fun i a xs e1 e2 => f a xs (h.2 i a xs e1 e2)⟩
theorem LsAt.get {R : Addr → List Int → Prop} {as : List Addr} {xss : List (List Int)} {i : Nat} {a : Addr} (h : LsAt R as xss) (e : as[i]? = some a) : ∃ xs, xss[i]? = some xs ∧ R a xs := by
  have l : i < xss.length := by
    rw [← h.1]
    exact (List.getElem?_eq_some_iff.mp e).1
  exact ⟨xss[i], List.getElem?_eq_getElem l, h.2 i a _ e (List.getElem?_eq_getElem l)⟩
theorem at_mem {α : Type} {l : List α} {d : Int} (h0 : 0 ≤ d) (h1 : d < l.length) : ∃ v, atI l d = some v ∧ v ∈ l := by
  have h2 : d.toNat < l.length := by omega
  refine ⟨l[d.toNat], ?_, List.getElem_mem h2⟩
  unfold atI ixN
  rw [if_pos h0, if_pos h1]
  show l[d.toNat]? = _
  exact List.getElem?_eq_getElem h2
theorem at_refs {as : List Addr} {z : Int} {n : Nat} {u : Addr} (e : z = (n : Int)) (h : as[n]? = some u) : atI (as.map V.ref) z = some (.ref u) := by
  refine at_of e ?_
  rw [List.getElem?_map, h] <;> rfl
theorem RowAt.but {K : PySem.W.Frag} {H H' : Hp} {p E : Addr} {ns : List Int} {l : List V} (h : RowAt K H p ns) (hE : H E = some (.lst l)) (b : SameBut E H H') : RowAt K H' p ns := by
  obtain ⟨dx, t, h1, h2⟩ := h
  refine ⟨dx, t, b _ _ (ne_of h1 hE (by intro z; cases z)) h1, ?_⟩
  rcases h2 with (h2 | ⟨o, h2⟩) | h2
  · exact .inl (.inl (b _ _ (ne_of h2 hE (by intro z; cases z)) h2))
  · exact .inl (.inr ⟨o, b _ _ (ne_of h2 hE (by intro z; cases z)) h2⟩)
  · exact .inr h2
theorem rowF_none (t : Addr) {m : Str} (h : (m == ("entries" : Str)) = false) : (RowF t).lookup m = none := by
  unfold RowF
  rw [List.lookup_cons, h]
  rfl
theorem LsAt.lens {R : Addr → List Int → Prop} {as : List Addr} {xss : List (List Int)} {k : Nat} (h : LsAt R as xss) (f : ∀ a xs, R a xs → xs.length ≤ k) {i : Nat} {xs : List Int} (e : xss[i]? = some xs) : xs.length ≤ k := by
  have l : i < as.length := by
    rw [h.1]
    exact (List.getElem?_eq_some_iff.mp e).1
  exact f _ _ (h.2 i _ xs (List.getElem?_eq_getElem l) e)
end Pl

set_option Elab.async false
set_option linter.all false
set_option maxRecDepth 100000
set_option maxHeartbeats 4000000
namespace Pl
/-! ### the number of a row -/
theorem pw (w : Nat) : (0 : Int) < 2 ^ w := Int.pow_pos (by decide)
def val : List Int → Nat → Int
  | [], _ => 0
  | x :: r, w => x + 2 ^ w * val r w
theorem val_append (w : Nat) : ∀ xs ys : List Int, val (xs ++ ys) w = val xs w + 2 ^ (w * xs.length) * val ys w
  | [], ys => by simp [val]
  | x :: r, ys => by
    show x + 2 ^ w * val (r ++ ys) w = x + 2 ^ w * val r w + 2 ^ (w * (r.length + 1)) * val ys w
    rw [val_append w r ys, Int.mul_add, Nat.mul_succ, Nat.add_comm (w * r.length) w, Int.pow_add, Int.mul_assoc, Int.add_assoc]
theorem val_zero (w : Nat) : ∀ n : Nat, val (List.replicate n 0) w = 0
  | 0 => rfl
  | n + 1 => by
    rw [List.replicate_succ]
    show 0 + 2 ^ w * val (List.replicate n 0) w = 0
    rw [val_zero w n, Int.mul_zero, Int.add_zero]
/-- equal lane by lane: one number -/
theorem val_congr (w : Nat) : ∀ (n : Nat) (xs ys : List Int), xs.length ≤ n → ys.length ≤ n → (∀ i, xs.getD i 0 = ys.getD i 0) → val xs w = val ys w
  | 0, xs, ys, h1, h2, _ => by
    rw [List.eq_nil_of_length_eq_zero (Nat.le_zero.mp h1), List.eq_nil_of_length_eq_zero (Nat.le_zero.mp h2)]
  | n + 1, xs, ys, h1, h2, h => by
    have key : ∀ zs : List Int, val zs w = zs.getD 0 0 + 2 ^ w * val zs.tail w := fun zs => by
      cases zs with
      | nil => simp [val]
      | cons a r => rfl
    rw [key xs, key ys, h 0, val_congr w n xs.tail ys.tail (by rw [List.length_tail]; omega) (by rw [List.length_tail]; omega) fun i => ?_]
    have e : ∀ zs : List Int, zs.tail.getD i 0 = zs.getD (i + 1) 0 := fun zs => by cases zs <;> simp
    rw [e, e]
    exact h (i + 1)
theorem val_stp (xs : List Int) (w : Nat) : val (stp xs) w = val xs w := val_congr w (xs.length) _ _ (stp_length xs) (Nat.le_refl _) (stp_get xs)
/-! ### neighbours joined in pairs -/
def comb (w : Nat) : List Int → List Int
  | a :: b :: r => (a + b * 2 ^ w) :: comb w r
  | xs => xs
theorem val_comb (w : Nat) : ∀ xs : List Int, xs.length % 2 = 0 → val (comb w xs) (w + w) = val xs w
  | [], _ => rfl
  | [a], h => by simp at h
  | a :: b :: r, h => by
    have ih := val_comb w r (by have h' : (r.length + 1 + 1) % 2 = 0 := h; omega)
    show a + b * 2 ^ w + 2 ^ (w + w) * val (comb w r) (w + w) = a + 2 ^ w * (b + 2 ^ w * val r w)
    rw [ih, Int.pow_add, Int.mul_add, Int.mul_comm b, Int.mul_assoc, Int.add_assoc]
theorem comb_length (w : Nat) : ∀ xs : List Int, xs.length % 2 = 0 → (comb w xs).length = xs.length / 2
  | [], _ => rfl
  | [a], h => by simp at h
  | a :: b :: r, h => by
    show (comb w r).length + 1 = (r.length + 2) / 2
    rw [comb_length w r (by have h' : (r.length + 1 + 1) % 2 = 0 := h; omega)]
    omega
def evens {α : Type} : List α → List α
  | a :: _ :: r => a :: evens r
  | xs => xs
def odds {α : Type} : List α → List α
  | _ :: b :: r => b :: odds r
  | _ => []
theorem comb_zip (w : Nat) : ∀ xs : List Int, xs.length % 2 = 0 → comb w xs = List.zipWith (fun a b => a + b * 2 ^ w) (evens xs) (odds xs)
  | [], _ => rfl
  | [a], h => by simp at h
  | a :: b :: r, h => by
    show _ :: comb w r = _ :: List.zipWith _ (evens r) (odds r)
    rw [comb_zip w r (by have h' : (r.length + 1 + 1) % 2 = 0 := h; omega)]
theorem evens_map {α β : Type} (f : α → β) : ∀ xs : List α, evens (xs.map f) = (evens xs).map f
  | [] => rfl
  | [a] => rfl
  | a :: b :: r => by
    show f a :: evens (r.map f) = f a :: (evens r).map f
    rw [evens_map f r]
theorem odds_map {α β : Type} (f : α → β) : ∀ xs : List α, odds (xs.map f) = (odds xs).map f
  | [] => rfl
  | [a] => rfl
  | a :: b :: r => by
    show f b :: odds (r.map f) = f b :: (odds r).map f
    rw [odds_map f r]
theorem evens_length {α : Type} : ∀ xs : List α, (evens xs).length = (xs.length + 1) / 2
  | [] => by simp [evens]
  | [a] => by simp [evens]
  | a :: b :: r => by
    show (evens r).length + 1 = (r.length + 2 + 1) / 2
    rw [evens_length r]
    omega
theorem odds_length {α : Type} : ∀ xs : List α, (odds xs).length = xs.length / 2
  | [] => by simp [odds]
  | [a] => by simp [odds]
  | a :: b :: r => by
    show (odds r).length + 1 = (r.length + 2) / 2
    rw [odds_length r]
    omega
theorem evens_get {α : Type} : ∀ (xs : List α) (i : Nat), (evens xs)[i]? = xs[2 * i]?
  | [], i => by simp [evens]
  | [a], i => by
    cases i with
    | zero => rfl
    | succ i =>
      show ([a] : List α)[i + 1]? = [a][2 * (i + 1)]?
      rw [List.getElem?_eq_none (by simp), List.getElem?_eq_none (by simp; omega)]
  | a :: b :: r, 0 => rfl
  | a :: b :: r, i + 1 => by
    show (evens r)[i]? = (a :: b :: r)[2 * i + 2]?
    rw [evens_get r i]
    rfl
theorem odds_get {α : Type} : ∀ (xs : List α) (i : Nat), (odds xs)[i]? = xs[2 * i + 1]?
  | [], i => by simp [odds]
  | [a], i => by simp [odds]
  | a :: b :: r, 0 => rfl
  | a :: b :: r, i + 1 => by
    show (odds r)[i]? = (a :: b :: r)[2 * i + 3]?
    rw [odds_get r i]
    rfl
/-! ### sizes -/
theorem natAbs_mul_pow (x : Int) (w : Nat) : (x * 2 ^ w).natAbs = x.natAbs * 2 ^ w := by
  rw [Int.natAbs_mul, Int.natAbs_pow]
  rfl
theorem small_comb {a b : Int} {m w : Nat} (hw : 1 ≤ w) (ha : a.natAbs < 2 ^ (m + 2 * w)) (hb : b.natAbs < 2 ^ (m + 2 * w)) : (a + b * 2 ^ w).natAbs < 2 ^ (m + 2 * (w + w)) := by
  have h1 : (a + b * 2 ^ w).natAbs ≤ a.natAbs + b.natAbs * 2 ^ w := by
    rw [← natAbs_mul_pow]
    exact Int.natAbs_add_le _ _
  have h2 : b.natAbs * 2 ^ w ≤ (2 ^ (m + 2 * w) - 1) * 2 ^ w := Nat.mul_le_mul_right _ (by omega)
  have e1 : 2 ^ (m + 2 * w) * 2 ^ w = 2 ^ (m + 3 * w) := by rw [← Nat.pow_add]; congr 1; omega
  have e2 : (2 ^ (m + 2 * w) - 1) * 2 ^ w = 2 ^ (m + 3 * w) - 2 ^ w := by rw [Nat.sub_mul, e1, Nat.one_mul]
  have h3 : 2 ^ (m + 2 * w) ≤ 2 ^ (m + 3 * w) := Nat.pow_le_pow_right (by decide) (by omega)
  have h4 : 2 * 2 ^ (m + 3 * w) ≤ 2 ^ (m + 2 * (w + w)) := by
    rw [show 2 * 2 ^ (m + 3 * w) = 2 ^ (m + 3 * w + 1) by rw [Nat.pow_succ]; omega]
    exact Nat.pow_le_pow_right (by decide) (by omega)
  have h5 : 0 < 2 ^ w := Nat.pow_pos (by decide)
  omega
theorem comb_small {m w : Nat} (hw : 1 ≤ w) : ∀ xs : List Int, (∀ x ∈ xs, x.natAbs < 2 ^ (m + 2 * w)) → ∀ x ∈ comb w xs, x.natAbs < 2 ^ (m + 2 * (w + w))
  | [], _, x, h => by simp [comb] at h
  | [a], hs, x, h => by
    have e : x = a := by simpa [comb] using h
    subst e
    exact Nat.lt_of_lt_of_le (hs x List.mem_cons_self) (Nat.pow_le_pow_right (by decide) (by omega))
  | a :: b :: r, hs, x, h => by
    have h' : x ∈ (a + b * 2 ^ w) :: comb w r := h
    rcases List.mem_cons.mp h' with e | e
    · subst e
      exact small_comb hw (hs a (by simp)) (hs b (by simp))
    · exact comb_small hw r (fun y hy => hs y (by simp [hy])) x e
theorem val_small {m w : Nat} : ∀ xs : List Int, (∀ x ∈ xs, x.natAbs < 2 ^ m) → (val xs w).natAbs < 2 ^ (m + (w + 1) * xs.length)
  | [], _ => by
    show 0 < _
    exact Nat.pow_pos (by decide)
  | x :: r, h => by
    have ih := val_small (w := w) r fun y hy => h y (List.mem_cons_of_mem _ hy)
    have hx := h x List.mem_cons_self
    have h1 : (val (x :: r) w).natAbs ≤ x.natAbs + (val r w).natAbs * 2 ^ w := by
      rw [← natAbs_mul_pow, Int.mul_comm]
      exact Int.natAbs_add_le _ _
    have h2 : (val r w).natAbs * 2 ^ w < 2 ^ (m + (w + 1) * r.length) * 2 ^ w := Nat.mul_lt_mul_of_pos_right ih (Nat.pow_pos (by decide))
    have e1 : 2 ^ (m + (w + 1) * r.length) * 2 ^ w = 2 ^ (m + (w + 1) * r.length + w) := by rw [← Nat.pow_add]
    have h3 : 2 ^ m ≤ 2 ^ (m + (w + 1) * r.length + w) := Nat.pow_le_pow_right (by decide) (by omega)
    have e2 : 2 ^ (m + (w + 1) * (x :: r).length) = 2 * 2 ^ (m + (w + 1) * r.length + w) := by
      rw [List.length_cons, Nat.mul_succ, ← Nat.add_assoc, ← Nat.add_assoc, Nat.pow_succ]
      omega
    rw [e2]
    omega
/-! ### digits from 0 up -/
def dig (n : Int) (w i : Nat) : Int := n / 2 ^ (w * i) % 2 ^ w
def digL (n : Int) (w c : Nat) : List Int := (List.range c).map (dig n w)
theorem digL_length (n : Int) (w c : Nat) : (digL n w c).length = c := by simp [digL]
theorem ediv_pow (n : Int) (a b : Nat) : n / 2 ^ a / 2 ^ b = n / 2 ^ (a + b) := by
  rw [Int.ediv_ediv, if_neg (fun z => by have := pw a; omega), Int.sub_zero, ← Int.pow_add]
theorem emod_low (n : Int) (a b : Nat) : n % 2 ^ (a + b) % 2 ^ a = n % 2 ^ a := Int.emod_emod_of_dvd n ⟨2 ^ b, by rw [Int.pow_add]⟩
theorem emod_high (n : Int) (a b : Nat) : n % 2 ^ (a + b) / 2 ^ a = n / 2 ^ a % 2 ^ b := by
  have ha := pw a
  have hb := pw b
  have d1 := Int.emod_add_mul_ediv n (2 ^ a)
  have d2 := Int.emod_add_mul_ediv (n / 2 ^ a) (2 ^ b)
  have d3 := Int.emod_add_mul_ediv n (2 ^ (a + b))
  have e : n / 2 ^ (a + b) = n / 2 ^ a / 2 ^ b := (ediv_pow n a b).symm
  have m0 := Int.emod_nonneg n (show (2 : Int) ^ a ≠ 0 by omega)
  have m1 := Int.emod_lt_of_pos n ha
  have key : n % 2 ^ (a + b) = n % 2 ^ a + 2 ^ a * (n / 2 ^ a % 2 ^ b) := by
    rw [e, Int.pow_add] at d3
    rw [Int.mul_assoc] at d3
    have : (2 : Int) ^ a * (n / 2 ^ a) = 2 ^ a * (n / 2 ^ a % 2 ^ b) + 2 ^ a * (2 ^ b * (n / 2 ^ a / 2 ^ b)) := by rw [← Int.mul_add, d2]
    rw [Int.pow_add]
    omega
  rw [key, Int.add_mul_ediv_left _ _ (show (2 : Int) ^ a ≠ 0 by omega), Int.ediv_eq_zero_of_lt m0 m1, Int.zero_add]
/-- the blocks of L lanes of the lowest m L lanes -/
def blocks (n : Int) (w L m : Nat) : List Int := (List.range m).map fun j => n / 2 ^ (w * (L * j)) % 2 ^ (w * L)
theorem blocks_one (n : Int) (w m : Nat) : blocks n w 1 m = digL n w m := by
  unfold blocks digL
  refine List.map_congr_left fun j _ => ?_
  rw [Nat.one_mul, Nat.mul_one]
  rfl
theorem block_low (n : Int) (w L j : Nat) : (n / 2 ^ (w * (2 * L * j)) % 2 ^ (w * (2 * L))) % 2 ^ (L * w) = n / 2 ^ (w * (L * (2 * j))) % 2 ^ (w * L) := by
  rw [show w * (2 * L) = L * w + L * w by rw [Nat.mul_comm w, Nat.mul_assoc, Nat.two_mul], emod_low, Nat.mul_comm L w, show 2 * L * j = L * (2 * j) by rw [Nat.mul_comm 2 L, Nat.mul_assoc]]
theorem block_high (n : Int) (w L j : Nat) : (n / 2 ^ (w * (2 * L * j)) % 2 ^ (w * (2 * L))) / 2 ^ (L * w) = n / 2 ^ (w * (L * (2 * j + 1))) % 2 ^ (w * L) := by
  rw [show w * (2 * L) = L * w + L * w by rw [Nat.mul_comm w, Nat.mul_assoc, Nat.two_mul], emod_high, ediv_pow, Nat.mul_comm L w, show w * (2 * L * j) + w * L = w * (L * (2 * j + 1)) by rw [← Nat.mul_add, Nat.mul_add L, Nat.mul_one, Nat.mul_comm 2 L, Nat.mul_assoc]]
theorem digL_take (n : Int) (w : Nat) {c d : Nat} (h : c ≤ d) : (digL n w d).take c = digL n w c := by
  unfold digL
  rw [← List.map_take, List.take_range, Nat.min_eq_left h]
end Pl

set_option Elab.async false
set_option linter.all false
set_option maxRecDepth 100000
set_option maxHeartbeats 4000000
namespace L2
open PySem PySem.Spec PyProof.Rows RZ
/-! ### xs[lo::k], k written -/
def pickV (xs : List V) (lo : Option Int) (k : Int) : List V := (sliceRange (sliceBounds lo none (some k) xs.length).1 (sliceBounds lo none (some k) xs.length).2.1 (sliceBounds lo none (some k) xs.length).2.2).filterMap (xs[·]?)
theorem vals_pick {xs : List V} {its : List Value} (r : Vals xs its) : ∀ ids : List Nat, Vals (ids.filterMap (xs[·]?)) (ids.filterMap (its[·]?))
  | [] => .nil
  | i :: ids => by
    have ih := vals_pick r ids
    cases e : xs[i]? with
    | none =>
      have e2 := Vals.none_of r e
      rw [List.filterMap_cons_none e, List.filterMap_cons_none e2]
      exact ih
    | some x =>
      obtain ⟨u, e2, ru⟩ := r.get e
      rw [List.filterMap_cons_some e, List.filterMap_cons_some e2]
      exact .cons ru ih
section
variable {X : Cx} {K : PySem.W.Frag}
def tSlStep (K : PySem.W.Frag) (te : TE) (tl : TO) (k : Int) : TE := fun σ H Q => te σ H fun x H1 => tl σ H1 fun lo H2 => ∃ a xs, x = .ref a ∧ SqL K H2 a xs ∧ NewL (pickV xs lo k) H2 Q
theorem PO.upO {o : Option Expr} {t : TO} (h : PO X o t) : PO X o (fun σ H Q => ∃ Q0 : Option Int → Hp → Prop, t σ H Q0 ∧ ∀ i H, Q0 i H → Q i H) :=
  ⟨fun pins s σ H Q I ⟨Q0, q, f⟩ => thn (h.run pins s σ H Q0 I q) fun v s1 ⟨i, H1, I1, r1, q1⟩ => ⟨i, H1, I1, r1, f _ _ q1⟩⟩
theorem pe_slStep {e : Expr} {lo : Option Expr} {te : TE} {tl : TO} {j : Int} {k : Nat} {p1 p3 pos : Pos} (he : PE X e te) (hl : PO X lo tl) (hj : j ≠ 0) (hK : X.K = K := by rfl) :
    PE X (.Subscript e (.Slice lo none (some (.Constant (.int j) k p1)) p3) pos) (tSlStep K te tl j) := by
  subst hK
  refine ⟨fun pins s σ H Q I h => ?_⟩
  refine Subscript_ (thn (he.run pins s σ H _ I h) fun v s1 ⟨x, H1, I1, r1, q1⟩ => ?_)
  have hst : PO X (some (.Constant (.int j) k p1)) (tPart (tC (.int j))) := po_some pe_int
  refine wpAny_Slice (thn (hl.run pins s1 σ H1 _ I1 q1) fun vl s2 ⟨l, H2, I2, pl, q2⟩ => ?_)
  obtain ⟨a, xs, ex, hx, q⟩ := q2
  subst ex
  cases r1
  refine thn (po_none.run pins s2 σ H2 (fun o H3 => o = none ∧ H3 = H2) I2 ⟨rfl, rfl⟩) fun vu s3 ⟨u, H3, I3, pu, eu, e3⟩ => ?_
  subst eu e3
  refine thn (hst.run pins s3 σ H3 (fun o H4 => o = some j ∧ H4 = H3) I3 ⟨j, rfl, rfl, rfl⟩) fun vs s4 ⟨o, H4, I4, ps, eo, e4⟩ => ?_
  subst eo e4
  have I5 : Inv X pins σ H4 { s4 with heap := s4.heap.push { cls := .type "slice", data := .fields #[vl, vu, vs] } } := I4.kept (t' := s4.toks) fun b ob q => Heap.get?_push_of_some _ q
  obtain ⟨its, r, ht, hz⟩ := I5.list hx
  have hlen := r.length
  show wpAny (model X.prog X.w) X.A (subscriptTail e (.Slice lo none (some (.Constant (.int j) k p1)) p3) (.ref a) (.ref s4.heap.objs.size)) (EP X pins σ Q) X.xe { s4 with heap := s4.heap.push { cls := .type "slice", data := .fields #[vl, vu, vs] } }
  refine tail_any (ops := [.ref a, .ref s4.heap.objs.size]) ht.isList.typeIs (PySem.slot_list_getitem.lookup) ?_ (by with_unfolding_all rfl)
  refine wpAny_getItem_list_slice ht.isList (Heap.IsSliceOf.new _ vl vu vs) pl pu ps (by simpa using hj) ?_ (by rw [List.size_toArray]; omega)
  have e : slicePick its.toArray l none (some j) = ((sliceRange (sliceBounds l none (some j) xs.length).1 (sliceBounds l none (some j) xs.length).2.1 (sliceBounds l none (some j) xs.length).2.2).filterMap (its[·]?)).toArray := by
    unfold slicePick
    rw [List.size_toArray, ← hlen]
    simp
  have hle : (slicePick its.toArray l none (some j)).size ≤ its.toArray.size := slicePick_size_le _ _ _ _
  rw [e] at hle ⊢
  have vp := vals_pick r (sliceRange (sliceBounds l none (some j) xs.length).1 (sliceBounds l none (some j) xs.length).2.1 (sliceBounds l none (some j) xs.length).2.2)
  refine ⟨.ref _, _, I5.laid (t' := s4.toks) (o := .lst (pickV xs l j)) (fun b ob q => Heap.get?_push_of_some _ q) (Nat.le_refl _) ?_, rfl, q.go _ (I5.hok.fresh (Nat.le_refl _))⟩
  refine ⟨?_, _, 0, vp, Heap.get?_push_size _ rfl⟩
  have h2 : (pickV xs l j).length = _ := vp.length
  rw [h2]
  rw [List.size_toArray, List.size_toArray] at hle
  omega
end
theorem filterMap_all {α : Type} (f : Nat → Option α) : ∀ (c : Nat), (∀ i, i < c → (f i).isSome = true) → ((List.range c).filterMap f).length = c ∧ ∀ i, ((List.range c).filterMap f)[i]? = if i < c then f i else none
  | 0, _ => ⟨rfl, fun i => by simp⟩
  | c + 1, h => by
    obtain ⟨l, g⟩ := filterMap_all f c fun i hi => h i (by omega)
    obtain ⟨x, hx⟩ := Option.isSome_iff_exists.mp (h c (by omega))
    rw [List.range_succ, List.filterMap_append, List.filterMap_cons_some hx, List.filterMap_nil]
    refine ⟨by rw [List.length_append, l]; rfl, fun i => ?_⟩
    by_cases hi : i < c
    · rw [List.getElem?_append_left (by omega), g i, if_pos hi, if_pos (by omega)]
    · rw [List.getElem?_append_right (by omega), l]
      by_cases he : i = c
      · subst he
        rw [Nat.sub_self, if_pos (by omega), hx]
        rfl
      · rw [if_neg (by omega), List.getElem?_eq_none (by simp; omega)]
theorem pick_by (xs : List V) (f : Nat → Nat) (c : Nat) (h : ∀ i, i < c → f i < xs.length) : ∀ i : Nat, (((List.range c).map f).filterMap (xs[·]?))[i]? = if i < c then xs[f i]? else none := fun i => by
  rw [List.filterMap_map]
  exact (filterMap_all (fun i => xs[f i]?) c fun i hi => by simp [h i hi]).2 i
theorem pick_evens (xs : List V) : pickV xs none 2 = Pl.evens xs := by
  have e : pickV xs none 2 = ((List.range ((xs.length + 1) / 2)).map fun i => 2 * i).filterMap (xs[·]?) := by
    unfold pickV sliceBounds sliceRange
    simp only [Option.getD_some, Option.getD_none, show (2 : Int) > 0 by decide, if_true]
    congr 1
    cases hn : xs.length with
    | zero => simp
    | succ n =>
      rw [if_pos (by omega)]
      congr 1
      · funext i
        omega
      · congr 1
        omega
  rw [e]
  refine List.ext_getElem? fun i => ?_
  rw [pick_by xs (fun i => 2 * i) _ (fun i hi => by omega), Pl.evens_get]
  split
  · rfl
  · rw [List.getElem?_eq_none (by omega)]
theorem pick_odds (xs : List V) : pickV xs (some 1) 2 = Pl.odds xs := by
  have e : pickV xs (some 1) 2 = ((List.range (xs.length / 2)).map fun i => 2 * i + 1).filterMap (xs[·]?) := by
    unfold pickV sliceBounds sliceRange
    simp only [Option.getD_some, Option.getD_none, show (2 : Int) > 0 by decide, if_true]
    congr 1
    cases hn : xs.length with
    | zero =>
      simp <;> decide
    | succ n =>
      have e1 : max (0 : Int) (min (if (1 : Int) < 0 then 1 + ((n + 1 : Nat) : Int) else 1) ((n + 1 : Nat) : Int)) = 1 := by
        rw [if_neg (by decide)]
        omega
      rw [e1]
      congr 1
      · funext i
        omega
      · congr 1
        split <;> omega
  rw [e]
  refine List.ext_getElem? fun i => ?_
  rw [pick_by xs (fun i => 2 * i + 1) _ (fun i hi => by omega), Pl.odds_get]
  split
  · rfl
  · rw [List.getElem?_eq_none (by omega)]
/-! ### zip of two lists -/
section
variable {K : PySem.W.Frag} {g : TG} {tt : TT} {te : TE} {vs : List Nat} {σ : L2.St} {H1 : Hp} {D a : Addr} {xs ys : List V} {Qd : Hp → Prop}
theorem lcN_zipL {b : Addr} (I : Nat → List V → Hp → Prop) (h0 : I 0 [] H1) (hl : ∀ i acc H, i ≤ min xs.length ys.length → I i acc H → H D = some (.lst acc) → SqL K H a xs ∧ SqL K H b ys)
    (hs : ∀ i x y acc H H2 T, xs[i]? = some x → ys[i]? = some y → I i acc H → H D = some (.lst acc) → Same H H2 → SqT K H2 T [x, y] → g (.ref T) (wipe σ vs) H2 fun σ2 H2 => wipe σ2 vs = wipe σ vs ∧ tt σ2 H2 fun b H3 =>
      if b = true then te σ2 H3 fun y H4 => H4 D = some (.lst acc) ∧ acc.length < sizeLine ∧ ∀ H5, SameBut D H4 H5 → H5 D = some (.lst (acc ++ [y])) → I (i + 1) (acc ++ [y]) H5 else H3 D = some (.lst acc) ∧ I (i + 1) acc H3)
    (hd : ∀ acc H, I (min xs.length ys.length) acc H → H D = some (.lst acc) → Qd H) : LcGoal (Itz K a b) g tt te vs σ H1 D Qd := by
  refine ⟨fun i m acc H => m = min xs.length ys.length - i ∧ i ≤ min xs.length ys.length ∧ I i acc H, ⟨min xs.length ys.length, by simp, Nat.zero_le _, h0⟩, ?_⟩
  rintro i m acc H ⟨rfl, hi, p⟩ eD
  obtain ⟨q, q'⟩ := hl i acc H hi p eD
  by_cases hlt : i < min xs.length ys.length
  · have h1 : i < xs.length := by omega
    have h2 : i < ys.length := by omega
    refine .inr ⟨⟨xs, ys, xs[i], ys[i], q, q', by simp [h1], by simp [h2]⟩, I (i + 1), fun acc' H' p' => ⟨min xs.length ys.length - (i + 1), by omega, rfl, hlt, p'⟩, fun x H' y => ?_⟩
    obtain ⟨T, x1, x2, rfl, nT, rfl, f1, f2⟩ := y
    exact hs i x1 x2 acc H _ T (f1 _ q) (f2 _ q') p eD (same_upd nT) (.inl (.inl upd_same))
  · have e : i = min xs.length ys.length := by omega
    subst e
    refine .inl ⟨⟨xs, ys, q, q', by omega⟩, hd acc H p eD⟩
end
/-! ### [e for a in xs for b in ys] -/
/-- what the inner walk's reading asks: Nx behind it -/
def InGoal (J1 : It) (g1 : TG) (tt1 : TT) (te : TE) (vs1 : List Nat) (σ2 : L2.St) (H4 : Hp) (D : Addr) (Nx : List V → Hp → Prop) : Prop := ∃ W1 : Nat → Nat → List V → Hp → Prop, (∃ m acc, H4 D = some (.lst acc) ∧ W1 0 m acc H4) ∧ ∀ j k acc H, W1 j k acc H → H D = some (.lst acc) →
  (J1.stop j H ∧ Nx acc H) ∨ (J1.go j H ∧ ∃ Nx1 : List V → Hp → Prop, (∀ acc' H', Nx1 acc' H' → ∃ k', k' < k ∧ W1 (j + 1) k' acc' H') ∧ ∀ x H', J1.yld j H x H' → g1 x (wipe σ2 vs1) H' fun σ3 H5 => wipe σ3 vs1 = wipe σ2 vs1 ∧ tt1 σ3 H5 fun b H6 =>
    if b = true then te σ3 H6 fun y H7 => H7 D = some (.lst acc) ∧ acc.length < sizeLine ∧ ∀ H8, SameBut D H7 H8 → H8 D = some (.lst (acc ++ [y])) → Nx1 (acc ++ [y]) H8 else H6 D = some (.lst acc) ∧ Nx1 acc H6)
def tLc2N (wi : TI) (g : TG) (tt : TT) (wi1 : TI) (g1 : TG) (tt1 : TT) (te : TE) (vs vs1 : List Nat) : TE := fun σ H Q => wi σ H fun J H1 => ∀ D H1', H1 D = none → Same H1 H1' → H1' D = some (.lst []) → ∃ W : Nat → Nat → List V → Hp → Prop, (∃ m, W 0 m [] H1') ∧ ∀ i m acc H, W i m acc H → H D = some (.lst acc) →
  (J.stop i H ∧ Q (.ref D) H) ∨ (J.go i H ∧ ∃ Nx : List V → Hp → Prop, (∀ acc' H', Nx acc' H' → ∃ m', m' < m ∧ W (i + 1) m' acc' H') ∧ ∀ x H', J.yld i H x H' → g x (wipe σ vs) H' fun σ2 H2 => wipe σ2 vs = wipe σ vs ∧ tt σ2 H2 fun b H3 =>
    if b = true then wi1 σ2 H3 fun J1 H4 => InGoal J1 g1 tt1 te vs1 σ2 H4 D Nx else H3 D = some (.lst acc) ∧ Nx acc H3)
theorem lc2_of {wi wi1 : TI} {g g1 : TG} {tt tt1 : TT} {te : TE} {vs vs1 : List Nat} {σ : L2.St} {H : Hp} {Q : VK} (h : tLc2N wi g tt wi1 g1 tt1 te vs vs1 σ H Q) : tLc2 (upI wi) (upG g) (upT tt) (upI wi1) (upG g1) (upT tt1) (upE te) vs vs1 σ H Q := by
  refine ⟨_, h, fun J H1 q D hD => ?_⟩
  obtain ⟨W, ⟨m, w0⟩, step⟩ := q D _ hD (same_upd hD) upd_same
  refine ⟨fun i m H => ∃ acc, H D = some (.lst acc) ∧ W i m acc H, ⟨m, [], upd_same, w0⟩, ?_⟩
  rintro i m H ⟨acc, eD, w⟩
  rcases step i m acc H w eD with z | ⟨go, Nx, hN, z⟩
  · exact .inl z
  · refine .inr ⟨go, fun H' => ∃ acc, H' D = some (.lst acc) ∧ Nx acc H', ?_, fun x H' y => ⟨_, z x H' y, fun σ2 H2 q2 => ⟨q2.1, _, q2.2, fun b H3 q3 => ?_⟩⟩⟩
    · rintro H' ⟨acc', e', n'⟩
      obtain ⟨m', lt, w'⟩ := hN acc' H' n'
      exact ⟨m', lt, acc', e', w'⟩
    · cases b with
      | true =>
        rw [if_pos rfl] at q3
        rw [if_pos rfl]
        refine ⟨_, q3, fun J1 H4 q4 => ?_⟩
        obtain ⟨W1, ⟨m1, acc1, e1, w1⟩, step1⟩ := q4
        refine ⟨fun i m H => ∃ acc, H D = some (.lst acc) ∧ W1 i m acc H, ⟨m1, acc1, e1, w1⟩, ?_⟩
        rintro j k H ⟨acc2, eD2, w2⟩
        rcases step1 j k acc2 H w2 eD2 with z2 | ⟨go2, Nx2, hN2, z2⟩
        · exact .inl ⟨z2.1, acc2, eD2, z2.2⟩
        · refine .inr ⟨go2, fun H' => ∃ acc, H' D = some (.lst acc) ∧ Nx2 acc H', ?_, fun x H' y => ⟨_, z2 x H' y, fun σ3 H5 q5 => ⟨q5.1, _, q5.2, fun b H6 q6 => ?_⟩⟩⟩
          · rintro H' ⟨acc', e', n'⟩
            obtain ⟨m', lt, w'⟩ := hN2 acc' H' n'
            exact ⟨m', lt, acc', e', w'⟩
          · cases b with
            | true =>
              rw [if_pos rfl] at q6
              rw [if_pos rfl]
              exact ⟨_, q6, fun y H7 ⟨e7, l7, q7⟩ => ⟨acc2, e7, l7, acc2 ++ [y], upd_same, q7 _ .of_upd upd_same⟩⟩
            | false =>
              rw [if_neg Bool.false_ne_true] at q6
              rw [if_neg Bool.false_ne_true]
              exact ⟨acc2, q6.1, q6.2⟩
      | false =>
        rw [if_neg Bool.false_ne_true] at q3
        rw [if_neg Bool.false_ne_true]
        exact ⟨acc, q3.1, q3.2⟩
section
variable {X : Cx}
theorem ps_setLc2N {i : Nat} {y : Str} {py : Pos} {elt tg iter tg1 iter1 : Expr} {ifs ifs1 : List Expr} {scope : Scope} {own : List (Str × Nat)} {vs1 : List Nat} {pos spos : Pos} {wi wi1 : TI} {g g1 : TG} {tt tt1 : TT} {te : TE} (hc : X.calm = true) (hN : X.N.Nodup) (hy : X.N[i]? = some y) (hyl : X.env.scope.names.lookup y = some .local)
    (hsw : swapsWith (.ListComp elt [⟨tg, iter, ifs, 0⟩, ⟨tg1, iter1, ifs1, 0⟩] scope pos) (some (.Name y py)) spos.line X.env = pure true) (hi : PI X tg iter wi) (ok : BlkOk X.N X.env.scope scope own) (hv : ∀ i ∈ vs1, i ∈ own.map (·.2))
    (hg : ∀ (s : Shared) (H : Hp) (C : Addr) (cl : List (Str × Addr)) (fp : List Addr), PG (X.blk s H scope (compEnvC scope cl C X.env) fp) tg g) (ht : ∀ (s : Shared) (H : Hp) (C : Addr) (cl : List (Str × Addr)) (fp : List Addr), PTs (X.blk s H scope (compEnvC scope cl C X.env) fp) ifs tt)
    (hi1 : ∀ (s : Shared) (H : Hp) (C : Addr) (cl : List (Str × Addr)) (fp : List Addr), PI (X.blk s H scope (compEnvC scope cl C X.env) fp) tg1 iter1 wi1)
    (hg1 : ∀ (s : Shared) (H : Hp) (C : Addr) (cl : List (Str × Addr)) (fp : List Addr), PG (X.blk s H scope (compEnvC scope cl C X.env) fp) tg1 g1) (ht1 : ∀ (s : Shared) (H : Hp) (C : Addr) (cl : List (Str × Addr)) (fp : List Addr), PTs (X.blk s H scope (compEnvC scope cl C X.env) fp) ifs1 tt1)
    (he : ∀ (s : Shared) (H : Hp) (C : Addr) (cl : List (Str × Addr)) (fp : List Addr), PE (X.blk s H scope (compEnvC scope cl C X.env) fp) elt te) (hs : ∀ x, foldedSetIterable iter X.env x = pure x := by intro _; rfl) (hs1 : ∀ env x, foldedSetIterable iter1 env x = pure x := by intro _ _; rfl) :
    PS X (.Assign [.Name y py] (.ListComp elt [⟨tg, iter, ifs, 0⟩, ⟨tg1, iter1, ifs1, 0⟩] scope pos) spos) (tAsg (tLc2N wi g tt wi1 g1 tt1 te (own.map (·.2)) vs1) (gName i)) :=
  (ps_setLc2 hc hN hy hyl hsw hi.up ok hv (fun s H C cl fp => (hg s H C cl fp).up) (fun s H C cl fp => (ht s H C cl fp).up) (fun s H C cl fp => (hi1 s H C cl fp).up) (fun s H C cl fp => (hg1 s H C cl fp).up) (fun s H C cl fp => (ht1 s H C cl fp).up) (fun s H C cl fp => (he s H C cl fp).up) hs hs1).imp fun D σ H q => lc2_of q
end
/-- an outer walk of a list -/
theorem lc2N_list {K : PySem.W.Frag} {g g1 : TG} {tt tt1 : TT} {te : TE} {wi1 : TI} {vs vs1 : List Nat} {σ : L2.St} {H1 : Hp} {D a : Addr} {xs : List V} {Qd : Hp → Prop} (I : Nat → List V → Hp → Prop) (h0 : I 0 [] H1) (hl : ∀ i acc H, i ≤ xs.length → I i acc H → H D = some (.lst acc) → SqL K H a xs)
    (hs : ∀ i x acc H, xs[i]? = some x → I i acc H → H D = some (.lst acc) → g x (wipe σ vs) H fun σ2 H2 => wipe σ2 vs = wipe σ vs ∧ tt σ2 H2 fun b H3 => if b = true then wi1 σ2 H3 fun J1 H4 => InGoal J1 g1 tt1 te vs1 σ2 H4 D (I (i + 1)) else H3 D = some (.lst acc) ∧ I (i + 1) acc H3)
    (hd : ∀ acc H, I xs.length acc H → H D = some (.lst acc) → Qd H) :
    ∃ W : Nat → Nat → List V → Hp → Prop, (∃ m, W 0 m [] H1) ∧ ∀ i m acc H, W i m acc H → H D = some (.lst acc) → ((Itl K a).stop i H ∧ Qd H) ∨ ((Itl K a).go i H ∧ ∃ Nx : List V → Hp → Prop, (∀ acc' H', Nx acc' H' → ∃ m', m' < m ∧ W (i + 1) m' acc' H') ∧ ∀ x H', (Itl K a).yld i H x H' → g x (wipe σ vs) H' fun σ2 H2 => wipe σ2 vs = wipe σ vs ∧ tt σ2 H2 fun b H3 =>
      if b = true then wi1 σ2 H3 fun J1 H4 => InGoal J1 g1 tt1 te vs1 σ2 H4 D Nx else H3 D = some (.lst acc) ∧ Nx acc H3) := by
  refine ⟨fun i m acc H => m = xs.length - i ∧ i ≤ xs.length ∧ I i acc H, ⟨xs.length, by simp, Nat.zero_le _, h0⟩, ?_⟩
  rintro i m acc H ⟨rfl, hi, p⟩ eD
  have q := hl i acc H hi p eD
  by_cases hlt : i < xs.length
  · refine .inr ⟨⟨xs, xs[i], q, by simp [hlt]⟩, I (i + 1), fun acc' H' p' => ⟨xs.length - (i + 1), by omega, rfl, hlt, p'⟩, fun x H' y => ?_⟩
    obtain ⟨e, y⟩ := y
    subst e
    exact hs i x acc _ (y xs q) p eD
  · have e : i = xs.length := by omega
    subst e
    exact .inl ⟨⟨xs, q, Nat.le_refl _⟩, hd acc H p eD⟩
/-- an inner walk of a tuple -/
theorem in_tup {K : PySem.W.Frag} {g1 : TG} {tt1 : TT} {te : TE} {vs1 : List Nat} {σ2 : L2.St} {H4 : Hp} {D a : Addr} {xs acc0 : List V} {Nx : List V → Hp → Prop} (I : Nat → List V → Hp → Prop) (hD : H4 D = some (.lst acc0)) (h0 : I 0 acc0 H4) (hl : ∀ i acc H, i ≤ xs.length → I i acc H → H D = some (.lst acc) → SqT K H a xs)
    (hs : ∀ i x acc H, xs[i]? = some x → I i acc H → H D = some (.lst acc) → g1 x (wipe σ2 vs1) H fun σ3 H5 => wipe σ3 vs1 = wipe σ2 vs1 ∧ tt1 σ3 H5 fun b H6 =>
      if b = true then te σ3 H6 fun y H7 => H7 D = some (.lst acc) ∧ acc.length < sizeLine ∧ ∀ H8, SameBut D H7 H8 → H8 D = some (.lst (acc ++ [y])) → I (i + 1) (acc ++ [y]) H8 else H6 D = some (.lst acc) ∧ I (i + 1) acc H6)
    (hd : ∀ acc H, I xs.length acc H → H D = some (.lst acc) → Nx acc H) : InGoal (Itt K a) g1 tt1 te vs1 σ2 H4 D Nx := by
  refine ⟨fun i m acc H => m = xs.length - i ∧ i ≤ xs.length ∧ I i acc H, ⟨xs.length, acc0, hD, by simp, Nat.zero_le _, h0⟩, ?_⟩
  rintro i m acc H ⟨rfl, hi, p⟩ eD
  have q := hl i acc H hi p eD
  by_cases hlt : i < xs.length
  · refine .inr ⟨⟨xs, xs[i], q, by simp [hlt]⟩, I (i + 1), fun acc' H' p' => ⟨xs.length - (i + 1), by omega, rfl, hlt, p'⟩, fun x H' y => ?_⟩
    obtain ⟨e, y⟩ := y
    subst e
    exact hs i x acc _ (y xs q) p eD
  · have e : i = xs.length := by omega
    subst e
    exact .inl ⟨⟨xs, q, Nat.le_refl _⟩, hd acc H p eD⟩
section
variable {X : Cx}
/-- a if c else b, where both ways meet -/
def tIfEJ (t : TT) (ta tb : TE) : TE := fun σ H Q => ∃ J : V → Hp → Prop, (t σ H fun c H1 => if c = true then ta σ H1 J else tb σ H1 J) ∧ ∀ v H', J v H' → Q v H'
theorem pe_ifExpJ {c a b : Expr} {pos : Pos} {tA : TT} {ta tb : TE} (hc : PT X c tA) (ha : PE X a ta) (hb : PE X b tb) : PE X (.IfExp c a b pos) (tIfEJ tA ta tb) := ⟨fun pins s σ H Q I ⟨J, h, f⟩ => thn ((pe_ifExp hc ha hb).run pins s σ H J I h) fun u s1 ⟨v, H1, I1, r, q⟩ => ⟨v, H1, I1, r, f _ _ q⟩⟩
end
end L2

set_option Elab.async false
set_option linter.all false
set_option maxRecDepth 100000
set_option maxHeartbeats 4000000
namespace Pl
open PySem
/-! ### the digits of a row's number -/
theorem drop_step (es : List Int) (w i : Nat) : val (es.drop i) w = es.getD i 0 + 2 ^ w * val (es.drop (i + 1)) w := by
  by_cases h : i < es.length
  · rw [List.drop_eq_getElem_cons h, List.getD_eq_getElem?_getD, List.getElem?_eq_getElem h]
    rfl
  · rw [List.drop_of_length_le (by omega), List.drop_of_length_le (by omega), List.getD_eq_getElem?_getD, List.getElem?_eq_none (by omega)]
    show (0 : Int) = 0 + 2 ^ w * 0
    rw [Int.mul_zero, Int.add_zero]
theorem val_div (es : List Int) (w : Nat) : ∀ i, val es w / 2 ^ (w * i) = car es w i + val (es.drop i) w
  | 0 => by
    rw [Nat.mul_zero, List.drop_zero]
    show val es w / 1 = 0 + _
    rw [Int.ediv_one, Int.zero_add]
  | i + 1 => by
    have hp := pw w
    rw [Nat.mul_succ, ← ediv_pow, val_div es w i, drop_step es w i]
    show _ = (es.getD i 0 + car es w i) / 2 ^ w + _
    rw [← Int.add_assoc, Int.add_mul_ediv_left _ _ (by omega), Int.add_comm (car es w i)]
theorem dig_val (es : List Int) (w i : Nat) : dig (val es w) w i = (es.getD i 0 + car es w i) % 2 ^ w := by
  unfold dig
  rw [val_div, drop_step, ← Int.add_assoc, Int.add_mul_emod_self_left, Int.add_comm (car es w i)]
/-- the first c entries -/
def ent (es : List Int) (c : Nat) : List Int := (List.range c).map fun i => es.getD i 0
theorem list_range_eq {f g : Nat → Int} {c : Nat} : (List.range c).map f = (List.range c).map g ↔ ∀ i, i < c → f i = g i := by
  constructor
  · intro h i hi
    have e := congrArg (fun l : List Int => l[i]?) h
    simpa [hi] using e
  · intro h
    exact List.map_congr_left fun i hi => h i (List.mem_range.mp hi)
theorem car_inside {es : List Int} {w c : Nat} (h : ∀ i, i < c → 0 ≤ es.getD i 0 ∧ es.getD i 0 < 2 ^ w) : ∀ i, i ≤ c → car es w i = 0
  | 0, _ => rfl
  | i + 1, hi => by
    show (es.getD i 0 + car es w i) / 2 ^ w = 0
    rw [car_inside h i (by omega), Int.add_zero]
    exact Int.ediv_eq_zero_of_lt (h i (by omega)).1 (h i (by omega)).2
theorem inside_car {es : List Int} {w c : Nat} (h : ∀ i, 1 ≤ i → i ≤ c → car es w i = 0) : ∀ i, i < c → 0 ≤ es.getD i 0 ∧ es.getD i 0 < 2 ^ w := by
  intro i hi
  have c0 : car es w i = 0 := by
    cases i with
    | zero => rfl
    | succ i => exact h (i + 1) (by omega) (by omega)
  have c1 := h (i + 1) (by omega) (by omega)
  have hp := pw w
  have e : (es.getD i 0 + car es w i) / 2 ^ w = 0 := c1
  rw [c0, Int.add_zero] at e
  have d := Int.emod_add_mul_ediv (es.getD i 0) (2 ^ w)
  have m0 := Int.emod_nonneg (es.getD i 0) (show (2 : Int) ^ w ≠ 0 by omega)
  have m1 := Int.emod_lt_of_pos (es.getD i 0) hp
  rw [e, Int.mul_zero, Int.add_zero] at d
  omega
theorem digits_iff (es : List Int) (w c : Nat) : digL (val es w) w c = ent es c ↔ ∀ i, i < c → 0 ≤ es.getD i 0 ∧ es.getD i 0 < 2 ^ w := by
  unfold digL ent
  rw [list_range_eq]
  constructor
  · intro h i hi
    have hp := pw w
    rw [← h i hi]
    exact ⟨Int.emod_nonneg _ (by omega), Int.emod_lt_of_pos _ hp⟩
  · intro h i hi
    rw [dig_val, car_inside h i (by omega), Int.add_zero]
    exact Int.emod_eq_of_lt (h i hi).1 (h i hi).2
/-! ### balanced digits -/
def rep (w c : Nat) : Int := val (List.replicate c (2 ^ (w - 1))) w
def balL (n : Int) (w c : Nat) : List Int := (digL (n + rep w c) w c).map fun d => d - 2 ^ (w - 1)
theorem balL_length (n : Int) (w c : Nat) : (balL n w c).length = c := by simp [balL, digL]
theorem val_addL (w : Nat) : ∀ xs ys : List Int, val (addL xs ys) w = val xs w + val ys w
  | [], ys => by
    have e : addL [] ys = ys := by simp [addL]
    rw [e]
    show _ = 0 + _
    rw [Int.zero_add]
  | x :: r, [] => by
    have e : addL (x :: r) [] = x :: r := by simp [addL]
    rw [e]
    show _ = _ + (0 : Int)
    rw [Int.add_zero]
  | x :: r, y :: t => by
    have e : addL (x :: r) (y :: t) = (x + y) :: addL r t := by simp [addL]
    rw [e]
    show x + y + 2 ^ w * val (addL r t) w = x + 2 ^ w * val r w + (y + 2 ^ w * val t w)
    rw [val_addL w r t, Int.mul_add]
    omega
theorem get_rep (c i : Nat) (h : Int) : (List.replicate c h).getD i 0 = if i < c then h else 0 := by
  rw [List.getD_eq_getElem?_getD, List.getElem?_replicate]
  split <;> rfl
theorem two_half {w : Nat} (hw : 1 ≤ w) : (2 : Int) ^ w = 2 * 2 ^ (w - 1) := by
  obtain ⟨k, rfl⟩ : ∃ k, w = k + 1 := ⟨w - 1, by omega⟩
  rw [Nat.add_sub_cancel, Int.pow_succ, Int.mul_comm]
theorem bal_iff (es : List Int) {w : Nat} (hw : 1 ≤ w) (c : Nat) : balL (val es w) w c = ent es c ↔ ∀ i, i < c → -(2 ^ (w - 1)) ≤ es.getD i 0 ∧ es.getD i 0 < 2 ^ (w - 1) := by
  have hB := two_half hw
  have key := digits_iff (addL es (List.replicate c (2 ^ (w - 1)))) w c
  rw [val_addL] at key
  have eg : ∀ i, i < c → (addL es (List.replicate c (2 ^ (w - 1)))).getD i 0 = es.getD i 0 + 2 ^ (w - 1) := fun i hi => by rw [addL_get, get_rep, if_pos hi]
  have e1 : balL (val es w) w c = ent es c ↔ digL (val es w + rep w c) w c = ent (addL es (List.replicate c (2 ^ (w - 1)))) c := by
    unfold balL ent digL
    rw [List.map_map, list_range_eq, list_range_eq]
    constructor
    · intro h i hi
      have := h i hi
      simp only [Function.comp] at this
      rw [eg i hi]
      omega
    · intro h i hi
      have := h i hi
      rw [eg i hi] at this
      simp only [Function.comp]
      omega
  rw [e1]
  show digL (val es w + val (List.replicate c (2 ^ (w - 1))) w) w c = _ ↔ _
  rw [key]
  constructor
  · intro h i hi
    have := h i hi
    rw [eg i hi] at this
    omega
  · intro h i hi
    have := h i hi
    rw [eg i hi]
    omega
/-- digits back -/
theorem val_digL (n : Int) (w : Nat) : ∀ c, val (digL n w c) w = n % 2 ^ (w * c)
  | 0 => by
    rw [Nat.mul_zero]
    show (0 : Int) = n % 1
    rw [Int.emod_one]
  | c + 1 => by
    have e : digL n w (c + 1) = digL n w c ++ [dig n w c] := by
      unfold digL
      rw [List.range_succ, List.map_append]
      rfl
    rw [e, val_append, val_digL n w c, digL_length]
    show n % 2 ^ (w * c) + 2 ^ (w * c) * (n / 2 ^ (w * c) % 2 ^ w + 2 ^ w * 0) = _
    have hp := pw (w * c)
    have h2 := emod_high n (w * c) w
    have h1 := emod_low n (w * c) w
    have d := Int.emod_add_mul_ediv (n % 2 ^ (w * c + w)) (2 ^ (w * c))
    rw [h1, h2] at d
    rw [Int.mul_zero, Int.add_zero, Nat.mul_succ]
    exact d
theorem val_sub (w : Nat) (h : Int) : ∀ xs : List Int, val (xs.map fun d => d - h) w = val xs w - val (List.replicate xs.length h) w
  | [] => rfl
  | x :: r => by
    show x - h + 2 ^ w * val (r.map fun d => d - h) w = x + 2 ^ w * val r w - (h + 2 ^ w * val (List.replicate r.length h) w)
    rw [val_sub w h r, Int.mul_sub]
    omega
theorem rep_eq (w : Nat) (h : Int) : ∀ s, (2 ^ w - 1) * val (List.replicate s h) w = h * (2 ^ (w * s) - 1)
  | 0 => by simp [val]
  | s + 1 => by
    rw [List.replicate_succ]
    show (2 ^ w - 1) * (h + 2 ^ w * val (List.replicate s h) w) = _
    have ih := rep_eq w h s
    have e : (2 ^ w - 1) * (2 ^ w * val (List.replicate s h) w) = 2 ^ w * (h * (2 ^ (w * s) - 1)) := by rw [← ih, ← Int.mul_assoc, Int.mul_comm (2 ^ w - 1), Int.mul_assoc]
    rw [Int.mul_add, e, Nat.mul_succ, Int.pow_add]
    generalize (2 : Int) ^ w = B
    generalize (2 : Int) ^ (w * s) = X
    simp only [Int.mul_sub, Int.sub_mul, Int.mul_one, Int.one_mul]
    rw [Int.mul_left_comm B h X, Int.mul_comm X B, Int.mul_comm B h]
    omega
theorem rep_low (w : Nat) (h : Int) (h0 : 0 ≤ h) : ∀ s, h * 2 ^ (w * s) ≤ val (List.replicate (s + 1) h) w
  | 0 => by
    show h * 2 ^ (w * 0) ≤ h + 2 ^ w * 0
    rw [Nat.mul_zero, Int.mul_zero, Int.add_zero]
    show h * 1 ≤ h
    omega
  | s + 1 => by
    have ih := rep_low w h h0 s
    rw [List.replicate_succ]
    show _ ≤ h + 2 ^ w * val (List.replicate (s + 1) h) w
    have := Int.mul_le_mul_of_nonneg_left ih (Int.le_of_lt (pw w))
    rw [Nat.mul_succ, Int.pow_add, ← Int.mul_assoc, Int.mul_comm _ (2 ^ w)]
    omega
/-- so many lanes hold all balanced digits of n -/
theorem bal_range {n : Int} {w s : Nat} (hw : 2 ≤ w) (hs : 1 ≤ s) (hn : 4 * (n.natAbs : Int) < 2 ^ (w * s)) : 0 ≤ n + rep w s ∧ n + rep w s < 2 ^ (w * s) := by
  have hB := two_half (show 1 ≤ w by omega)
  have hh : (2 : Int) ≤ 2 ^ (w - 1) := by
    obtain ⟨k, hk⟩ : ∃ k, w - 1 = k + 1 := ⟨w - 2, by omega⟩
    rw [hk, Int.pow_succ]
    have := pw k
    omega
  obtain ⟨t, rfl⟩ : ∃ t, s = t + 1 := ⟨s - 1, by omega⟩
  have lo := rep_low w (2 ^ (w - 1)) (by omega) t
  have e := rep_eq w (2 ^ (w - 1)) (t + 1)
  have eP : (2 : Int) ^ (w * (t + 1)) = 2 * (2 ^ (w - 1) * 2 ^ (w * t)) := by
    rw [Nat.mul_succ, Int.pow_add, hB, Int.mul_left_comm, Int.mul_comm (2 ^ (w * t))]
  unfold rep
  generalize val (List.replicate (t + 1) (2 ^ (w - 1))) w = r at *
  rw [hB] at e
  constructor
  · omega
  · generalize hP : (2 : Int) ^ (w * (t + 1)) = P at *
    generalize (2 : Int) ^ (w - 1) = h at *
    rcases Int.lt_or_le (n + r) P with z | z
    · exact z
    · exfalso
      have h4 : 3 * P + 1 ≤ 4 * r := by omega
      have hm := Int.mul_le_mul_of_nonneg_left h4 (show 0 ≤ 2 * h - 1 by omega)
      have e2 : (2 * h - 1) * (4 * r) = 4 * (h * (P - 1)) := by rw [← e, ← Int.mul_assoc, Int.mul_comm _ 4, Int.mul_assoc]
      rw [e2, Int.mul_sub, Int.sub_mul, Int.mul_add, Int.mul_assoc 2 h, Int.mul_left_comm h 3 P] at hm
      have hp : 2 * P ≤ h * P := Int.mul_le_mul_of_nonneg_right hh (by omega)
      omega
/-- beyond so many lanes all balanced digits are 0 -/
theorem bal_more {n : Int} {w s : Nat} (hw : 2 ≤ w) (hs : 1 ≤ s) (hn : 4 * (n.natAbs : Int) < 2 ^ (w * s)) (c : Nat) (hc : s ≤ c) : balL n w c = balL n w s ++ List.replicate (c - s) 0 := by
  obtain ⟨r0, r1⟩ := bal_range hw hs hn
  have hB := two_half (show 1 ≤ w by omega)
  have ev : val (balL n w s) w = n := by
    unfold balL
    rw [val_sub, val_digL, digL_length, Int.emod_eq_of_lt r0 r1]
    show n + rep w s - rep w s = n
    omega
  have hin : ∀ i, i < c → -(2 ^ (w - 1)) ≤ (balL n w s).getD i 0 ∧ (balL n w s).getD i 0 < 2 ^ (w - 1) := by
    intro i _
    have hp := pw (w - 1)
    by_cases hi : i < s
    · have e : (balL n w s).getD i 0 = dig (n + rep w s) w i - 2 ^ (w - 1) := by
        unfold balL digL
        rw [List.map_map, List.getD_eq_getElem?_getD, List.getElem?_map, List.getElem?_range hi]
        rfl
      rw [e]
      unfold dig
      have a0 := Int.emod_nonneg ((n + rep w s) / 2 ^ (w * i)) (show (2 : Int) ^ w ≠ 0 by have := pw w; omega)
      have a1 := Int.emod_lt_of_pos ((n + rep w s) / 2 ^ (w * i)) (pw w)
      omega
    · have e : (balL n w s).getD i 0 = 0 := by
        rw [List.getD_eq_getElem?_getD, List.getElem?_eq_none (by rw [balL_length]; omega)]
        rfl
      rw [e]
      omega
  have h1 := (bal_iff (balL n w s) (show 1 ≤ w by omega) c).mpr hin
  rw [ev] at h1
  rw [h1]
  refine List.ext_getElem? fun i => ?_
  unfold ent
  rw [List.getElem?_map]
  by_cases hi : i < s
  · rw [List.getElem?_range (by omega), List.getElem?_append_left (by rw [balL_length]; exact hi)]
    show some ((balL n w s).getD i 0) = _
    rw [List.getD_eq_getElem?_getD, List.getElem?_eq_getElem (by rw [balL_length]; exact hi)]
    rfl
  · rw [List.getElem?_append_right (by rw [balL_length]; omega), balL_length, List.getElem?_replicate]
    by_cases hic : i < c
    · rw [List.getElem?_range hic, if_pos (by omega)]
      show some ((balL n w s).getD i 0) = _
      rw [List.getD_eq_getElem?_getD, List.getElem?_eq_none (by rw [balL_length]; omega)]
      rfl
    · rw [List.getElem?_eq_none (by simp; omega), if_neg (by omega)]
      rfl
theorem bits_lt (n : Int) : n.natAbs < 2 ^ (Builtin.Int.intBits n) := by
  unfold Builtin.Int.intBits
  by_cases h : n = 0
  · subst h
    decide
  · rw [if_neg (by simpa using h)]
    exact (Nat.log2_lt (by omega)).mp (Nat.lt_succ_self _)
end Pl

set_option Elab.async false
set_option linter.all false
set_option maxRecDepth 100000
set_option maxHeartbeats 2000000
/-! enumerate and zip over lists and tuples alike -/
namespace RZ
open PySem
open PySem.Sem (wp)
/-- enumerate(v) for whatever begins -/
theorem fresh_enum {v : Value} {o : Obj} {Hv : Heap → Prop} (B : Begins v o Hv) :
    Meets (Builtin.«enumerate.__new__» ⟨[.type "enumerate", v], []⟩)
      (fun _ R s => Hv s.heap ∧ R (.ok (.ret (.ref (s.heap.push o).objs.size)))
        { s with heap := (s.heap.push o).push { cls := .type "enumerate", data := .fields #[.none, .bool false, .ref s.heap.objs.size, rawInt 0, .none, .none] } }) := by
  refine .of_wp fun pr wd Ar Rr st hs => ?_
  obtain ⟨hp, gn, dr, tk, os⟩ := st
  obtain ⟨hv, hr⟩ := hs
  have sub := sub_enumerate
  have goIter : ∀ {A' : Around} {E Q : Value → Shared → Prop}, Q (.ref hp.objs.size) ⟨hp.push o, gn, dr, tk, os⟩ → wpAny (model pr wd) A' (pyIter v) Q E ⟨hp, gn, dr, tk, os⟩ :=
    fun q => B.iter pr wd _ _ ⟨hp, gn, dr, tk, os⟩ _ hv q
  wp_walk using goIter
  refine wpAny_stack_any fun _ => wpAny_pure ?_
  split
  case h_1 =>
    rename_i cc _ _ _ _ _
    cases (cc == Value.type "enumerate") <;> (wp_walk using goIter; exact ⟨_, rfl, hr⟩)
  all_goals (wp_walk using goIter; exact ⟨_, rfl, hr⟩)
section
variable {prog : Program} {w : World} {A : Around} {E : Value → Shared → Prop} {s : Shared}
theorem call_enum_of {v : Value} {o : Obj} {Hv : Heap → Prop} {Q : Value → Shared → Prop} (B : Begins v o Hv) (hv : Hv s.heap)
    (k : ∀ h', IsEnum h' (s.heap.objs.size + 1) s.heap.objs.size 0 .none → h'.get? s.heap.objs.size = some o → (∀ b x, s.heap.get? b = some x → h'.get? b = some x) → Q (.ref (s.heap.objs.size + 1)) { s with heap := h' }) :
    wpAny (model prog w) A (call (.type "enumerate") [v]) Q E s := by
  refine callType_new F.called_enumerate (by decide) (F.typeCall_enumerate_1 _) (F.newCall_enumerate_1 _) (fun ob => F.args_object_init_2 ob _) F.entry_enumerate_new (fresh_enum B) ⟨hv, ?_⟩
  have sz : (s.heap.push o).objs.size = s.heap.objs.size + 1 := Heap.size_push ..
  show _ ∧ _
  rw [sz]
  have en := Heap.get?_push_size (s.heap.push o) (o := { cls := .type "enumerate", data := .fields #[.none, .bool false, .ref s.heap.objs.size, rawInt 0, .none, .none] }) rfl
  rw [sz] at en
  exact ⟨⟨_, en, rfl⟩, k _ en (Heap.get?_push_of_some _ (Heap.get?_push_size _ B.free)) fun b x e => Heap.get?_push_of_some _ (Heap.get?_push_of_some _ e)⟩
end
end RZ
namespace Pl
open PySem PySem.Spec PyProof.Rows L2 RZ
/-! ### a list (false) or a tuple (true) -/
def SqB (K : PySem.W.Frag) : Bool → Hp → Addr → List V → Prop
  | true, H, a, xs => SqT K H a xs
  | false, H, a, xs => SqL K H a xs
def ItB : Bool → Heap → Addr → Addr → Nat → Prop
  | true, h, it, a, i => h.IsTupleIter it a i
  | false, h, it, a, i => h.IsListIter it a i
def SeB : Bool → Heap → Addr → Array Value → Prop
  | true, h, a, v => h.IsTuple a v
  | false, h, a, v => h.IsList a v
def obB : Bool → Addr → Obj
  | true, a => { cls := .type "tuple_iterator", data := .fields #[.ref a, .int 0 0] }
  | false, a => { cls := .type "list_iterator", data := .fields #[.ref a, .int 0 0] }
theorem drawsB {prog : Program} {w : World} {A : Around} (hh : A.handled = none) (b : Bool) (it a : Addr) (hne : a ≠ it) (items : Array Value) :
    Draws prog w A it [it, a] items.size (fun i v => items[i]? = some v) (fun i h => ItB b h it a i ∧ SeB b h a items) := by
  cases b
  · exact .list hh it a hne items
  · exact .tuple hh it a hne items
theorem beginsB (b : Bool) (a : Addr) (items : Array Value) : Begins (.ref a) (obB b a) fun h => SeB b h a items := by
  cases b
  · exact begins_list a items
  · exact begins_tuple a items
theorem ItB.new {b : Bool} {h : Heap} {it a : Addr} (e : h.get? it = some (obB b a)) : ItB b h it a 0 := by
  cases b
  · exact ⟨_, e, rfl, rfl⟩
  · exact ⟨_, e, rfl, rfl⟩
theorem ItB.at {b : Bool} {h h' : Heap} {it a : Addr} {i : Nat} (x : ItB b h it a i) (e : ∀ o, h.get? it = some o → h'.get? it = some o) : ItB b h' it a i := by
  cases b
  · exact Heap.IsListIter.at x e
  · exact Heap.IsTupleIter.at x e
theorem ItB.obj {b : Bool} {h : Heap} {it a : Addr} {i : Nat} (x : ItB b h it a i) : ∃ o, h.get? it = some o ∧ ∀ v, o.data ≠ .cell v := by
  cases b
  · obtain ⟨o, e, _, d⟩ := x
    exact ⟨o, e, fun v z => by rw [d] at z; cases z⟩
  · obtain ⟨o, e, _, d⟩ := x
    exact ⟨o, e, fun v z => by rw [d] at z; cases z⟩
section
variable {X : Cx} {pins : List (Addr × Obj)} {σ : L2.St} {H : Hp} {s : Shared} {a : Addr} {xs ys : List V}
theorem seqB (I : Inv X pins σ H s) {b : Bool} (h : SqB X.K b H a xs) : ∃ its : List Value, Vals xs its ∧ SeB b s.heap a its.toArray ∧ a < s.heap.objs.size := by
  cases b
  · obtain ⟨its, rv, p, _⟩ := I.list h
    exact ⟨its, rv, p.isList, p.lt⟩
  · obtain ⟨its, rv, p, _⟩ := I.tuple h
    obtain ⟨o, e, _⟩ := id p
    exact ⟨its, rv, p, Heap.lt_size e⟩
theorem injB (I : Inv X pins σ H s) {b : Bool} (h : SqB X.K b H a xs) (h' : SqB X.K b H a ys) : xs = ys := by
  cases b
  · exact I.list_inj h h'
  · exact I.tuple_inj h h'
end
/-! ### enumerate -/
def IeB (K : PySem.W.Frag) (b : Bool) (a : Addr) : It :=
  ⟨fun i H => ∃ xs : List V, SqB K b H a xs ∧ i < xs.length,
   fun i H v H' => ∃ T x, v = .ref T ∧ H T = none ∧ H' = upd H T (.tup [.int (i : Nat), x]) ∧ ∀ xs, SqB K b H a xs → xs[i]? = some x,
   fun i H => ∃ xs : List V, SqB K b H a xs ∧ xs.length = i⟩
theorem turn_enumB {P : Program} {w : World} {K : PySem.W.Frag} {elts : List Expr} {kk : Nat} {tpos : Pos} (b : Bool) {a e it : Addr} (n1 : e ≠ it) (n2 : a ≠ it) (n3 : a ≠ e) :
    Turn P w K (.Tuple elts kk tpos) (IeB K b a) [e, it] e (fun i h => (∃ old, IsEnum h e it ((i : Nat) : Int) old) ∧ ItB b h it a i) := by
  have nm : e ∉ [it, a] := by simp [n1, Ne.symm n3]
  refine ⟨by simp, fun i h st c hc => ?_, fun i h h' st k => ?_, ?_, ?_, fun A i s Q E st h => ?_⟩
  · obtain ⟨⟨old, he⟩, hi⟩ := st
    rcases (show c = e ∨ c = it by simpa using hc) with z | z <;> rw [z]
    · exact ⟨_, he, fun v q => nomatch q⟩
    · exact hi.obj
  · obtain ⟨⟨old, he⟩, hi⟩ := st
    exact ⟨⟨old, k e (by simp) _ he⟩, hi.at fun o q => k it (by simp) o q⟩
  · intro X hP hw hK hc i pins s σ H E I hf st hg
    subst hP hw hK
    obtain ⟨⟨old, he⟩, hit⟩ := st
    obtain ⟨xs, hq, hlt⟩ := hg
    obtain ⟨its, rv, p, hal⟩ := seqB I hq
    have hle := rv.length
    have lte : e < s.heap.objs.size := Heap.lt_size he
    have ltI : it < s.heap.objs.size := by obtain ⟨o, q, _⟩ := hit.obj; exact Heap.lt_size q
    refine wpAny_pyNext_enum_itemD (drawsB (A := X.A.in1) (show X.A.in1.handled = none from I.ok.hd hc) b it a n2 its.toArray) he ⟨hit, p⟩ (by simp; omega) n1 nm fun u h' tk hu ho hst hT hsz hk => ?_
    refine ⟨_, rfl, wpAny_letOwnedTupleGo_enum (s := { s with heap := h', toks := tk + 1 }) ho fun h2 he2 sb => ?_⟩
    have hxi : xs[i]? = some xs[i] := List.getElem?_eq_getElem hlt
    obtain ⟨u', hu', ru⟩ := rv.get hxi
    have eu : u' = u := by
      have hu2 : its[i]? = some u := by simpa using hu
      rw [hu'] at hu2
      exact Option.some.inj hu2
    subst eu
    have hT2 := (sb.2 _ (Nat.ne_of_gt lte)).trans hT
    have I1 : Inv X pins σ (upd H s.heap.objs.size (.tup [.int (i : Nat), xs[i]])) { s with heap := h2, toks := tk + 1 } :=
      I.turnedNew (ch := [e, it]) (fun c o hb q => (sb.2 c (fun z => hb (by simp [z]))).trans (hk c o (fun z => hb (by simp [z])) (fun z => hb (by simp [z])) q)) hf (Nat.le_refl _)
        ⟨by show 2 ≤ sizeLine; decide, [.int i tk, u'], .cons ⟨_, rfl⟩ (.cons ru .nil), ⟨_, hT2, rfl, _, rfl⟩⟩
    refine ⟨.ref s.heap.objs.size, _, I1, rfl, ⟨_, xs[i], rfl, I.hok.fresh (Nat.le_refl _), rfl, fun l hl => by rw [injB I hl hq]; exact hxi⟩, ⟨⟨u', ?_⟩, hst.1.at fun o q => (sb.2 it (Ne.symm n1)).trans q⟩, fun c hcm => ?_⟩
    · have ei : ((i + 1 : Nat) : Int) = (i : Int) + 1 := Int.natCast_add i 1
      rw [ei]
      exact he2
    · have lt : c < s.heap.objs.size := by
        rcases (show c = e ∨ c = it by simpa using hcm) with z | z <;> rw [z] <;> assumption
      rw [upd_ne (Nat.ne_of_lt lt)]
      exact (hf c hcm).1
  · intro X hP hw hK hc i pins s σ H E I hf st hg
    subst hP hw hK
    obtain ⟨⟨old, he⟩, hit⟩ := st
    obtain ⟨xs, hq, hlt⟩ := hg
    obtain ⟨its, rv, p, hal⟩ := seqB I hq
    have hle := rv.length
    have ei : its.toArray.size = i := by simp; omega
    obtain ⟨f0, f1, f2, f3, f4, f5⟩ := hf it (by simp)
    refine wpAny_pyNext_enum_endD (drawsB (A := X.A.in1) (show X.A.in1.handled = none from I.ok.hd hc) b it a n2 its.toArray) he ⟨by rw [ei]; exact hit, p⟩ fun h' eb => ?_
    exact ⟨rfl, I.turned (t' := s.toks) (fun c o hb q => eb c o hb q) f0 f1 f3 f4 f5⟩
  · obtain ⟨⟨_, he⟩, _⟩ := st
    exact wpAny_pyIter_enum he h
/-- enumerate of a list or a tuple -/
def iEnumQ (K : PySem.W.Frag) (ta : TA) : TI := fun σ H R => ta σ H fun vs H1 => ∃ b a xs, vs = [.ref a] ∧ SqB K b H1 a xs ∧ R (IeB K b a) H1
theorem pi_enumQ {X : Cx} {K : PySem.W.Frag} {e : Expr} {ta : TA} {p pos tpos : Pos} {elts : List Expr} {kk : Nat} (hg : Gl X "enumerate") (hm : X.mg "enumerate" = none) (ha : PA X [e] ta)
    (hK : X.K = K := by rfl) (hs : starEach [e] X.env = [(false, eval e X.env)] := by rfl) : PI X (.Tuple elts kk tpos) (.Call (.Name "enumerate" p) [e] [] pos) (iEnumQ K ta) := by
  subst hK
  refine ⟨fun pins s σ H R I h => Call_ (ld_blt I hg hm boot_enumerate (PyProof.Rows.callWith_type1 (thn (ha.run pos pins s σ H _ I h) fun us s1 q0 => ?_) hs rfl))⟩
  obtain ⟨vs, H1, I1, r1, b, a, xs, rfl, hq, q⟩ := q0
  obtain ⟨its, rv, p', hal⟩ := seqB I1 hq
  rcases r1 with _ | ⟨⟨⟩, ⟨⟩⟩
  refine call_enum_of (beginsB b a its.toArray) p' fun h' he ho hk => wpAny_pyIter_enum he ?_
  refine ⟨s1.heap.objs.size + 1, [s1.heap.objs.size + 1, s1.heap.objs.size], _, _, H1, rfl, I1.kept (t' := s1.toks) hk, turn_enumB (a := a) (e := s1.heap.objs.size + 1) (it := s1.heap.objs.size) b (Nat.succ_ne_self _) (Nat.ne_of_lt hal) (Nat.ne_of_lt (Nat.lt_succ_of_lt hal)), ⟨⟨.none, he⟩, .new ho⟩, fun c hc => ?_, q⟩
  have hle : s1.heap.objs.size ≤ c := by
    rcases (show c = s1.heap.objs.size + 1 ∨ c = s1.heap.objs.size by simpa using hc) with z | z <;> rw [z]
    · exact Nat.le_add_right _ _
    · exact Nat.le_refl _
  exact I1.fpOk hle (I1.hok.fresh hle)
theorem walk_enumB {K : PySem.W.Frag} {b : Bool} {a : Addr} {xs : List V} : Walk (IeB K b a) xs.length (fun H => SqB K b H a xs) (YPair (fun i => some (.int (i : Nat))) fun i => xs[i]?) := by
  refine ⟨fun i _ hi q => ⟨xs, q, hi⟩, fun _ q => ⟨xs, q, rfl⟩, fun i H v H' _ q y => ?_⟩
  obtain ⟨T, x, h1, h2, h3, h4⟩ := y
  exact ⟨T, _, x, h1, h2, h3, rfl, h4 xs q⟩
/-! ### zip -/
def IzB (K : PySem.W.Frag) (b1 b2 : Bool) (a1 a2 : Addr) : It :=
  ⟨fun i H => ∃ xs ys : List V, SqB K b1 H a1 xs ∧ SqB K b2 H a2 ys ∧ i < xs.length ∧ i < ys.length,
   fun i H v H' => ∃ T x y, v = .ref T ∧ H T = none ∧ H' = upd H T (.tup [x, y]) ∧ (∀ xs, SqB K b1 H a1 xs → xs[i]? = some x) ∧ ∀ ys, SqB K b2 H a2 ys → ys[i]? = some y,
   fun i H => ∃ xs ys : List V, SqB K b1 H a1 xs ∧ SqB K b2 H a2 ys ∧ i = min xs.length ys.length⟩
theorem turn_zipB {P : Program} {w : World} {K : PySem.W.Frag} {elts : List Expr} {kk : Nat} {tpos : Pos} (b1 b2 : Bool) {a1 a2 z TI TO i1 i2 : Addr} (D : ZipSep2 z TI TO i1 i2 [i1, a1] [i2, a2]) (n1 : a1 ≠ i1) (n2 : a2 ≠ i2) :
    Turn P w K (.Tuple elts kk tpos) (IzB K b1 b2 a1 a2) [z, TI, TO, i1, i2] z
      (fun i h => IsZip h z TI TO .none ∧ IsTupOf2 h TI (.ref i1) (.ref i2) ∧ (∃ x y, IsTupOf2 h TO x y) ∧ ItB b1 h i1 a1 i ∧ ItB b2 h i2 a2 i) := by
  refine ⟨by simp, fun i h st c hc => ?_, fun i h h' st k => ?_, ?_, ?_, fun A i s Q E st h => wpAny_pyIter_zip st.1 h⟩
  · obtain ⟨hz, hI, ⟨x, y, hO⟩, t1, t2⟩ := st
    rcases (show c = z ∨ c = TI ∨ c = TO ∨ c = i1 ∨ c = i2 by simpa using hc) with q | q | q | q | q <;> rw [q]
    · exact ⟨_, hz, fun v q => nomatch q⟩
    · exact ⟨_, hI, fun v q => nomatch q⟩
    · exact ⟨_, hO, fun v q => nomatch q⟩
    · exact t1.obj
    · exact t2.obj
  · obtain ⟨hz, hI, ⟨x, y, hO⟩, t1, t2⟩ := st
    exact ⟨k z (by simp) _ hz, k TI (by simp) _ hI, ⟨x, y, k TO (by simp) _ hO⟩, t1.at fun o q => k i1 (by simp) o q, t2.at fun o q => k i2 (by simp) o q⟩
  · intro X hP hw hK hc i pins s σ H E I hf st hg
    subst hP hw hK
    obtain ⟨hz, hI, ⟨x0, y0, hO⟩, t1, t2⟩ := st
    obtain ⟨xs, ys, hx, hy, lx, ly⟩ := hg
    obtain ⟨its, rv, p, al⟩ := seqB I hx
    obtain ⟨jts, rw', p', al'⟩ := seqB I hy
    have e1 := rv.length
    have e2 := rw'.length
    have hd : X.A.in1.handled = none := I.ok.hd hc
    refine wpAny_pyNext_zipD2_item D (drawsB (A := X.A.in1) hd b1 i1 a1 n1 its.toArray) (drawsB (A := X.A.in1) hd b2 i2 a2 n2 jts.toArray) hz hI hO ⟨t1, p⟩ ⟨t2, p'⟩ (by simp; omega) (by simp; omega) fun u v h' tk hu hv z' O' st1 st2 hT hsz hk => ?_
    refine ⟨_, rfl, wpAny_letOwnedTupleGo_zip (s := { s with heap := h', toks := tk }) z' fun h2 z2 sb => ?_⟩
    have hxi : xs[i]? = some xs[i] := List.getElem?_eq_getElem lx
    have hyi : ys[i]? = some ys[i] := List.getElem?_eq_getElem ly
    obtain ⟨u', hu', ru⟩ := rv.get hxi
    obtain ⟨v', hv', rv'⟩ := rw'.get hyi
    have eu : u' = u := by
      have h2 : its[i]? = some u := by simpa using hu
      rw [hu'] at h2
      exact Option.some.inj h2
    have ev : v' = v := by
      have h2 : jts[i]? = some v := by simpa using hv
      rw [hv'] at h2
      exact Option.some.inj h2
    subst eu ev
    have hT2 := (sb.2 _ (Nat.ne_of_gt (Heap.lt_size hz))).trans hT
    have old : ∀ c o, c ∉ [z, TI, TO, i1, i2] → s.heap.get? c = some o → h2.get? c = some o := fun c o hc q =>
      (sb.2 c fun r => hc (by simp [r])).trans (hk c o (fun r => hc (by simp [r])) (fun r => hc (by simp [r])) (fun r => hc (by simp [r])) (fun r => hc (by simp [r])) q)
    have I1 : Inv X pins σ (upd H s.heap.objs.size (.tup [xs[i], ys[i]])) { s with heap := h2, toks := tk } :=
      I.turnedNew (ch := [z, TI, TO, i1, i2]) old hf (Nat.le_refl _) ⟨by show 2 ≤ sizeLine; decide, [u', v'], .cons ru (.cons rv' .nil), ⟨_, hT2, rfl, _, rfl⟩⟩
    refine ⟨.ref s.heap.objs.size, _, I1, rfl, ⟨_, xs[i], ys[i], rfl, I.hok.fresh (Nat.le_refl _), rfl, fun l hl => by rw [injB I hl hx]; exact hxi, fun l hl => by rw [injB I hl hy]; exact hyi⟩, ⟨z2, ?_, ⟨u', v', ?_⟩, ?_, ?_⟩, fun c hcm => ?_⟩
    · exact (sb.2 _ D.TIz).trans (hk _ _ D.TIz D.TITO D.TIi1 D.TIi2 hI)
    · exact (sb.2 _ D.TOz).trans O'
    · exact st1.1.at fun o q => (sb.2 _ (Ne.symm D.zi1)).trans q
    · exact st2.1.at fun o q => (sb.2 _ (Ne.symm D.zi2)).trans q
    · have lt : c < s.heap.objs.size := by
        rcases (show c = z ∨ c = TI ∨ c = TO ∨ c = i1 ∨ c = i2 by simpa using hcm) with q | q | q | q | q <;> rw [q]
        · exact Heap.lt_size hz
        · exact Heap.lt_size hI
        · exact Heap.lt_size hO
        · obtain ⟨o, e, _⟩ := t1.obj
          exact Heap.lt_size e
        · obtain ⟨o, e, _⟩ := t2.obj
          exact Heap.lt_size e
      rw [upd_ne (Nat.ne_of_lt lt)]
      exact (hf c hcm).1
  · intro X hP hw hK hc i pins s σ H E I hf st hg
    subst hP hw hK
    obtain ⟨hz, hI, ⟨x0, y0, hO⟩, t1, t2⟩ := st
    obtain ⟨xs, ys, hx, hy, ei⟩ := hg
    obtain ⟨its, rv, p, al⟩ := seqB I hx
    obtain ⟨jts, rw', p', al'⟩ := seqB I hy
    have e1 := rv.length
    have e2 := rw'.length
    have hd : X.A.in1.handled = none := I.ok.hd hc
    exact wpAny_pyNext_zipD2_end D (drawsB (A := X.A.in1) hd b1 i1 a1 n1 its.toArray) (drawsB (A := X.A.in1) hd b2 i2 a2 n2 jts.toArray) hz hI hO ⟨t1, p⟩ ⟨t2, p'⟩ (by simp; omega) (by simp; omega) (by simp; omega) fun h' tk hk =>
      ⟨rfl, I.turnedL (ch := [z, TI, TO, i1, i2]) (fun c o hc q => hk c o (fun r => hc (by simp [r])) (fun r => hc (by simp [r])) (fun r => hc (by simp [r])) (fun r => hc (by simp [r])) q) hf⟩
def iZipQ (K : PySem.W.Frag) (ta : TA) : TI := fun σ H R => ta σ H fun vs H1 => ∃ b1 b2 a1 a2 xs ys, vs = [.ref a1, .ref a2] ∧ SqB K b1 H1 a1 xs ∧ SqB K b2 H1 a2 ys ∧ R (IzB K b1 b2 a1 a2) H1
theorem pi_zipQ {X : Cx} {K : PySem.W.Frag} {e e2 : Expr} {ta : TA} {p pos tpos : Pos} {elts : List Expr} {kk : Nat} (hg : Gl X "zip") (hm : X.mg "zip" = none) (ha : PA X [e, e2] ta) (hK : X.K = K := by rfl)
    (hs : starEach [e, e2] X.env = (false, eval e X.env) :: starEach [e2] X.env := by rfl) (hpl : (backTo pos (starEach [e2] X.env)).any (·.1) = false := by rfl) :
    PI X (.Tuple elts kk tpos) (.Call (.Name "zip" p) [e, e2] [] pos) (iZipQ K ta) := by
  subst hK
  refine ⟨fun pins s σ H R I h => Call_ (ld_blt I hg hm PyProof.Rows.boot_zip (PyProof.Rows.callWith_type1 (thn (ha.run pos pins s σ H _ I h) fun us s1 q0 => ?_) hs hpl))⟩
  obtain ⟨vs, H1, I1, r1, b1, b2, a1, a2, xs, ys, rfl, hx, hy, q⟩ := q0
  obtain ⟨its, rv, p1, al⟩ := seqB I1 hx
  obtain ⟨jts, rw', p2, al'⟩ := seqB I1 hy
  rcases r1 with _ | ⟨⟨⟩, _ | ⟨⟨⟩, ⟨⟩⟩⟩
  refine zip_begins2 (beginsB b1 a1 its.toArray) (beginsB b2 a2 jts.toArray) p1 p2 fun h' hz hI hO o1 o2 hsz hk => wpAny_pyIter_zip hz ?_
  have sep := zip_sep2 (N := s1.heap.objs.size) (fp1 := [a1]) (fp2 := [a2]) (fun c hc => by rw [List.mem_singleton.mp hc]; exact al) (fun c hc => by rw [List.mem_singleton.mp hc]; exact al')
  refine ⟨s1.heap.objs.size + 4, [s1.heap.objs.size + 4, s1.heap.objs.size + 2, s1.heap.objs.size + 3, s1.heap.objs.size, s1.heap.objs.size + 1], _, _, H1, rfl, I1.kept (t' := s1.toks) hk,
    turn_zipB b1 b2 sep (Nat.ne_of_lt al) (Nat.ne_of_lt (Nat.lt_succ_of_lt al')), ⟨hz, hI, ⟨_, _, hO⟩, .new o1, .new o2⟩, fun c hc => ?_, q⟩
  have hle : s1.heap.objs.size ≤ c := by
    rcases (show c = s1.heap.objs.size + 4 ∨ c = s1.heap.objs.size + 2 ∨ c = s1.heap.objs.size + 3 ∨ c = s1.heap.objs.size ∨ c = s1.heap.objs.size + 1 by simpa using hc) with z | z | z | z | z <;> rw [z]
    all_goals first | exact Nat.le_refl _ | exact Nat.le_add_right _ _
  exact I1.fpOk hle (I1.hok.fresh hle)
theorem walk_zipB {K : PySem.W.Frag} {b1 b2 : Bool} {a1 a2 : Addr} {xs ys : List V} : Walk (IzB K b1 b2 a1 a2) (min xs.length ys.length) (fun H => SqB K b1 H a1 xs ∧ SqB K b2 H a2 ys) (YPair (fun i => xs[i]?) fun i => ys[i]?) := by
  refine ⟨fun i _ hi q => ⟨xs, ys, q.1, q.2, by omega, by omega⟩, fun _ q => ⟨xs, ys, q.1, q.2, rfl⟩, fun i H v H' _ q y => ?_⟩
  obtain ⟨T, x, z, h1, h2, h3, h4, h5⟩ := y
  exact ⟨T, x, z, h1, h2, h3, h4 xs q.1, h5 ys q.2⟩
/-! ### loops over pairs -/
section
variable {K : PySem.W.Frag} {g : TG} {tt : TT} {te : TE} {vs : List Nat} {σ : L2.St} {H1 : Hp} {D : Addr} {Qd : Hp → Prop} {J : It} {n : Nat} {G : Hp → Prop} {f1 f2 : Nat → Option V}
/-- a comprehension over pairs -/
theorem lcN_pair (wk : Walk J n G (YPair f1 f2)) (I : Nat → List V → Hp → Prop) (h0 : I 0 [] H1) (hl : ∀ i acc H, i ≤ n → I i acc H → H D = some (.lst acc) → G H)
    (hs : ∀ i x y acc H H2 T, f1 i = some x → f2 i = some y → i < n → I i acc H → H D = some (.lst acc) → Same H H2 → SqT K H2 T [x, y] → g (.ref T) (wipe σ vs) H2 fun σ2 H2 => wipe σ2 vs = wipe σ vs ∧ tt σ2 H2 fun b H3 =>
      if b = true then te σ2 H3 fun y H4 => H4 D = some (.lst acc) ∧ acc.length < sizeLine ∧ ∀ H5, SameBut D H4 H5 → H5 D = some (.lst (acc ++ [y])) → I (i + 1) (acc ++ [y]) H5 else H3 D = some (.lst acc) ∧ I (i + 1) acc H3)
    (hd : ∀ acc H, I n acc H → H D = some (.lst acc) → Qd H) : LcGoal J g tt te vs σ H1 D Qd := by
  refine ⟨fun i m acc H => m = n - i ∧ i ≤ n ∧ I i acc H, ⟨n, by simp, Nat.zero_le _, h0⟩, ?_⟩
  rintro i m acc H ⟨rfl, hi, p⟩ eD
  have q := hl i acc H hi p eD
  rcases Nat.lt_or_ge i n with lt | ge
  · refine .inr ⟨wk.goes i H lt q, I (i + 1), fun acc' H' p' => ⟨n - (i + 1), by omega, rfl, lt, p'⟩, fun x H' y => ?_⟩
    obtain ⟨T, x1, x2, rfl, nT, rfl, h1, h2⟩ := wk.yields i H x H' lt q y
    exact hs i x1 x2 acc H _ T h1 h2 lt p eD (same_upd nT) (.inl (.inl upd_same))
  · obtain rfl : i = n := Nat.le_antisymm hi ge
    exact .inl ⟨wk.stops H q, hd acc H p eD⟩
/-- a loop over pairs -/
theorem for_pair {tb : TS} {Ds : Ends} (wk : Walk J n G (YPair f1 f2)) (Pv : Nat → L2.St → Hp → Prop) (h0 : Pv 0 σ H1) (hG : ∀ i σ H, i ≤ n → Pv i σ H → G H)
    (hs : ∀ i x y σ H H2 T, f1 i = some x → f2 i = some y → i < n → Pv i σ H → Same H H2 → SqT K H2 T [x, y] → g (.ref T) σ H2 fun σ2 H2 => tb { Ds with nx := Pv (i + 1), ct := Pv (i + 1), bk := Ds.nx } σ2 H2)
    (hd : ∀ σ H, Pv n σ H → Ds.nx σ H) :
    ∃ W : Nat → Nat → L2.St → Hp → Prop, (∃ m, W 0 m σ H1) ∧ ∀ i m σ H, W i m σ H →
      (J.stop i H ∧ Ds.nx σ H) ∨ (J.go i H ∧ ∃ N : L2.St → Hp → Prop, (∀ σ' H', N σ' H' → ∃ m', m' < m ∧ W (i + 1) m' σ' H') ∧ ∀ x H', J.yld i H x H' → g x σ H' fun σ2 H2 => tb { Ds with nx := N, ct := N, bk := Ds.nx } σ2 H2) :=
  for_it wk Pv h0 hG (fun i x σ H H' hi p y => by
    obtain ⟨T, x1, x2, rfl, nT, rfl, h1, h2⟩ := y
    exact hs i x1 x2 σ H _ T h1 h2 hi p (same_upd nT) (.inl (.inl upd_same))) hd
end
/-! ### slices, of either kind -/
def rSlQ (K : PySem.W.Frag) : V → Option Int → Option Int → Hp → VK → Prop := fun x lo hi H Q => rSlL2 K x lo hi H Q ∨ rSlT2 K x lo hi H Q
theorem sl_sqK {X : Cx} {K : PySem.W.Frag} (hK : X.K = K := by rfl) : SlR X (rSlQ K) := by
  subst hK
  intro pins s σ H x v vl vu lo hi sl Q I r1 r2 r3 r4 h
  exact h.elim (sl_listN pins s σ H x v vl vu lo hi sl Q I r1 r2 r3 r4) (sl_tupN pins s σ H x v vl vu lo hi sl Q I r1 r2 r3 r4)
theorem Sq.cases {K : PySem.W.Frag} {H : Hp} {a : Addr} {xs : List V} (h : Sq K H a xs) : ∃ b, SqB K b H a xs := h.elim (fun h => ⟨false, h⟩) fun h => ⟨true, h⟩
theorem SqB.sq {K : PySem.W.Frag} {b : Bool} {H : Hp} {a : Addr} {xs : List V} (h : SqB K b H a xs) : Sq K H a xs := by
  cases b
  · exact .inl h
  · exact .inr h
theorem SqB.same {K : PySem.W.Frag} {b : Bool} {H H' : Hp} {a : Addr} {xs : List V} (s : Same H H') (h : SqB K b H a xs) : SqB K b H' a xs := by
  cases b
  · exact s.seq h
  · exact s.seqT h
/-- a list of two unpacked into two names -/
theorem pg_pairL {X : Cx} {K : PySem.W.Frag} {i j : Nat} {x y : Str} {p1 p2 pos : Pos} {kk : Nat} (hc : X.calm = true) (hN : X.N.Nodup) (hi : X.N[i]? = some x) (hj : X.N[j]? = some y) (hx : Loc X.env.scope x) (hy : Loc X.env.scope y)
    (hfx : X.fn x = true ∨ X.env.scope.names.lookup x = some .local := by first | exact .inl rfl | exact .inr rfl | assumption) (hfy : X.fn y = true ∨ X.env.scope.names.lookup y = some .local := by first | exact .inl rfl | exact .inr rfl | assumption) (hK : X.K = K := by rfl) :
    PG X (.Tuple [.Name x p1, .Name y p2] kk pos) (gLst K 2 (gCons (gName i) (gCons (gName j) gNil))) := hK ▸ pg_lst hc (pgs_cons (pg_name hN hi hx hfx) (pgs_cons (pg_name hN hj hy hfy) pgs_nil))
end Pl

set_option Elab.async false
set_option linter.all false
set_option maxRecDepth 100000
set_option maxHeartbeats 2000000
namespace Pl
open PySem PySem.Spec PyProof.Rows L2 RZ
/-! ### products, lane by lane -/
def shl (ys : List Int) (i n : Nat) : Int := if i ≤ n then ys.getD (n - i) 0 else 0
def conv (xs ys : List Int) : Nat → Nat → Int
  | 0, _ => 0
  | t + 1, n => conv xs ys t n + xs.getD t 0 * shl ys t n
def mulP (xs ys : List Int) : List Int := (List.range (xs.length + ys.length - 1)).map (conv xs ys xs.length)
theorem mulP_length (xs ys : List Int) : (mulP xs ys).length = xs.length + ys.length - 1 := by simp [mulP]
theorem shl_out {ys : List Int} {i n : Nat} (h : n < i ∨ i + ys.length ≤ n) : shl ys i n = 0 := by
  unfold shl
  split
  · rw [List.getD_eq_getElem?_getD, List.getElem?_eq_none (by omega)]
    rfl
  · rfl
theorem conv_out (xs ys : List Int) {n : Nat} : ∀ t, t ≤ xs.length → (0 < t → xs.length + ys.length - 1 ≤ n) → xs.length + ys.length ≤ n + 1 → conv xs ys t n = 0
  | 0, _, _, _ => rfl
  | t + 1, h, _, h2 => by
    show conv xs ys t n + _ = 0
    rw [conv_out xs ys t (by omega) (by omega) h2, shl_out (by omega), Int.mul_zero]
    rfl
theorem mulP_get (xs ys : List Int) (n : Nat) : (mulP xs ys).getD n 0 = conv xs ys xs.length n := by
  unfold mulP
  rw [List.getD_eq_getElem?_getD, List.getElem?_map]
  rcases Nat.lt_or_ge n (xs.length + ys.length - 1) with h | h
  · rw [List.getElem?_range h]
    rfl
  · rw [List.getElem?_eq_none (by rw [List.length_range]; exact h)]
    exact (conv_out xs ys _ (Nat.le_refl _) (fun _ => h) (by omega)).symm
theorem conv_cons (x : Int) (xs ys : List Int) (n : Nat) : ∀ t, conv (x :: xs) ys (t + 1) n = x * ys.getD n 0 + if n = 0 then 0 else conv xs ys t (n - 1)
  | 0 => by
    show 0 + x * shl ys 0 n = _
    have e : shl ys 0 n = ys.getD n 0 := by unfold shl; rw [if_pos (Nat.zero_le _)]; rfl
    rw [e, Int.zero_add]
    split <;> simp [conv]
  | t + 1 => by
    show conv (x :: xs) ys (t + 1) n + xs.getD t 0 * shl ys (t + 1) n = _
    rw [conv_cons x xs ys n t, Int.add_assoc]
    congr 1
    split
    · rename_i h
      rw [shl_out (by omega), Int.mul_zero]
      rfl
    · rename_i h
      show conv xs ys t (n - 1) + _ = conv xs ys t (n - 1) + _
      congr 2
      unfold shl
      by_cases h1 : t + 1 ≤ n
      · rw [if_pos h1, if_pos (by omega), show n - (t + 1) = n - 1 - t by omega]
      · rw [if_neg h1, if_neg (by omega)]
theorem val_scale (x : Int) (w : Nat) : ∀ ys : List Int, val (ys.map (x * ·)) w = x * val ys w
  | [] => by show (0 : Int) = x * 0; rw [Int.mul_zero]
  | y :: ys => by
    show x * y + 2 ^ w * val (ys.map (x * ·)) w = x * (y + 2 ^ w * val ys w)
    rw [val_scale x w ys, Int.mul_add, Int.mul_left_comm]
theorem map_get_scale (x : Int) (ys : List Int) (n : Nat) : (ys.map (x * ·)).getD n 0 = x * ys.getD n 0 := by
  rw [List.getD_eq_getElem?_getD, List.getD_eq_getElem?_getD, List.getElem?_map]
  cases ys[n]? with
  | none => show (0 : Int) = x * 0; rw [Int.mul_zero]
  | some y => rfl
theorem val_mulP (w : Nat) (ys : List Int) : ∀ xs : List Int, val (mulP xs ys) w = val xs w * val ys w
  | [] => by
    have e : ∀ l : List Int, (∀ n, l.getD n 0 = 0) → val l w = 0 := by
      intro l
      induction l with
      | nil => intro _; rfl
      | cons a l ih =>
        intro h
        show a + 2 ^ w * val l w = 0
        have h0 : a = 0 := h 0
        rw [ih fun n => h (n + 1), h0, Int.mul_zero]
        rfl
    rw [e _ fun n => mulP_get [] ys n]
    show (0 : Int) = 0 * _
    rw [Int.zero_mul]
  | x :: xs => by
    have key : val (mulP (x :: xs) ys) w = val (addL (ys.map (x * ·)) (0 :: mulP xs ys)) w := by
      refine val_congr w (xs.length + ys.length + 1) _ _ ?_ ?_ fun n => ?_
      · rw [mulP_length, List.length_cons]
        omega
      · rw [addL_length, List.length_map, List.length_cons, mulP_length]
        omega
      · rw [mulP_get, addL_get, map_get_scale]
        show conv (x :: xs) ys (xs.length + 1) n = _
        rw [conv_cons]
        congr 1
        cases n with
        | zero => rfl
        | succ n =>
          show (if n + 1 = 0 then (0 : Int) else conv xs ys xs.length n) = (mulP xs ys).getD n 0
          rw [if_neg (by omega), mulP_get]
    rw [key, val_addL, val_scale]
    show x * val ys w + (0 + 2 ^ w * val (mulP xs ys) w) = (x + 2 ^ w * val xs w) * val ys w
    rw [val_mulP w ys xs, Int.zero_add, Int.add_mul, Int.mul_assoc]
/-! ### how great a lane of a product is -/
theorem getD_small {xs : List Int} {A : Nat} (hA : 0 < A) (h : ∀ x ∈ xs, x.natAbs < A) (i : Nat) : (xs.getD i 0).natAbs < A := by
  rw [List.getD_eq_getElem?_getD]
  cases e : xs[i]? with
  | none => exact hA
  | some y => exact h y (List.mem_of_getElem? e)
theorem conv_small (xs ys : List Int) {A B : Nat} (hA : 0 < A) (hB : 0 < B) (hx : ∀ x ∈ xs, x.natAbs < A) (hy : ∀ y ∈ ys, y.natAbs < B) (n : Nat) :
    ∀ t, (conv xs ys t n).natAbs ≤ min t (min t (n + 1) - (n + 1 - ys.length)) * (A * B)
  | 0 => Nat.zero_le _
  | t + 1 => by
    have ih := conv_small xs ys hA hB hx hy n t
    show (conv xs ys t n + xs.getD t 0 * shl ys t n).natAbs ≤ _
    by_cases h : n < t ∨ t + ys.length ≤ n
    · rw [shl_out h, Int.mul_zero, Int.add_zero]
      exact Nat.le_trans ih (Nat.mul_le_mul_right _ (by omega))
    · have h1 : (xs.getD t 0 * shl ys t n).natAbs ≤ A * B := by
        rw [Int.natAbs_mul]
        refine Nat.mul_le_mul (Nat.le_of_lt (getD_small hA hx t)) ?_
        unfold shl
        split
        · exact Nat.le_of_lt (getD_small hB hy _)
        · exact Nat.zero_le _
      refine Nat.le_trans (Int.natAbs_add_le _ _) (Nat.le_trans (Nat.add_le_add ih h1) ?_)
      rw [← Nat.succ_mul]
      exact Nat.mul_le_mul_right _ (by omega)
theorem mulP_small (xs ys : List Int) {A B : Nat} (hA : 0 < A) (hB : 0 < B) (hx : ∀ x ∈ xs, x.natAbs < A) (hy : ∀ y ∈ ys, y.natAbs < B) : ∀ z ∈ mulP xs ys, z.natAbs ≤ min xs.length ys.length * (A * B) := by
  intro z hz
  unfold mulP at hz
  obtain ⟨n, hn, rfl⟩ := List.mem_map.mp hz
  exact Nat.le_trans (conv_small xs ys hA hB hx hy n xs.length) (Nat.mul_le_mul_right _ (by omega))
theorem mulP_get_small (xs ys : List Int) {A B : Nat} (hA : 0 < A) (hB : 0 < B) (hx : ∀ x ∈ xs, x.natAbs < A) (hy : ∀ y ∈ ys, y.natAbs < B) (n : Nat) : ((mulP xs ys).getD n 0).natAbs ≤ min xs.length ys.length * (A * B) := by
  rw [mulP_get]
  exact Nat.le_trans (conv_small xs ys hA hB hx hy n xs.length) (Nat.mul_le_mul_right _ (by omega))
/-! ### pair by pair -/
def psum (ps : List (Nat × Int)) (n : Nat) : Int := match ps with
  | [] => 0
  | p :: r => (if p.1 = n then p.2 else 0) + psum r n
theorem psum_append (a b : List (Nat × Int)) (n : Nat) : psum (a ++ b) n = psum a n + psum b n := by
  induction a with
  | nil => exact (Int.zero_add _).symm
  | cons p a ih =>
    show _ + psum (a ++ b) n = (_ + psum a n) + psum b n
    rw [ih, Int.add_assoc]
/-- the pairs with a factor that is not 0 -/
def prs (ys : List Int) (t : Nat) : List (Nat × Int) := ((List.range t).map fun i => (i, ys.getD i 0)).filter fun p => p.2 ≠ 0
theorem prs_succ (ys : List Int) (t : Nat) : prs ys (t + 1) = prs ys t ++ if ys.getD t 0 ≠ 0 then [(t, ys.getD t 0)] else [] := by
  unfold prs
  rw [List.range_succ, List.map_append, List.filter_append]
  congr 1
  show List.filter _ [(t, ys.getD t 0)] = _
  rw [List.filter_cons]
  by_cases h : ys.getD t 0 = 0 <;> simp [h]
theorem psum_prs (ys : List Int) (n : Nat) : ∀ t, psum (prs ys t) n = if n < t then ys.getD n 0 else 0
  | 0 => rfl
  | t + 1 => by
    rw [prs_succ, psum_append, psum_prs ys n t]
    have e0 : psum (if ys.getD t 0 ≠ 0 then [(t, ys.getD t 0)] else []) n = if t = n then ys.getD t 0 else 0 := by
      by_cases h : ys.getD t 0 = 0
      · rw [if_neg (fun z => z h), h]
        split <;> rfl
      · rw [if_pos h]
        show (if t = n then ys.getD t 0 else 0) + 0 = _
        rw [Int.add_zero]
    rw [e0]
    by_cases e : t = n
    · subst e
      rw [if_neg (Nat.lt_irrefl _), if_pos rfl, if_pos (Nat.lt_succ_self _), Int.zero_add]
    · rw [if_neg e, Int.add_zero]
      by_cases h2 : n < t
      · rw [if_pos h2, if_pos (by omega)]
      · rw [if_neg h2, if_neg (by omega)]
theorem prs_lt {ys : List Int} {t : Nat} {p : Nat × Int} (h : p ∈ prs ys t) : p.1 < t := by
  unfold prs at h
  obtain ⟨i, hi, rfl⟩ := List.mem_map.mp (List.mem_filter.mp h).1
  exact List.mem_range.mp hi
theorem psum_all (ys : List Int) (n : Nat) : psum (prs ys ys.length) n = ys.getD n 0 := by
  rw [psum_prs]
  split
  · rfl
  · rename_i h
    rw [List.getD_eq_getElem?_getD, List.getElem?_eq_none (by omega)]
    rfl
theorem prs_length (ys : List Int) (t : Nat) : (prs ys t).length ≤ t := by
  unfold prs
  refine Nat.le_trans (List.length_filter_le _ _) ?_
  simp
/-- one more product at lane k -/
theorem set_get {s : List Int} {k : Nat} (hk : k < s.length) (v : Int) (n : Nat) : (s.set k (s.getD k 0 + v)).getD n 0 = s.getD n 0 + if k = n then v else 0 := by
  rw [List.getD_eq_getElem?_getD, List.getElem?_set]
  by_cases e : k = n
  · subst e
    rw [if_pos rfl, if_pos hk, if_pos rfl]
    rfl
  · rw [if_neg e, if_neg e, Int.add_zero, List.getD_eq_getElem?_getD]
/-- lane n of what t pairs of a factor x at lane i have brought -/
def inn (x : Int) (i : Nat) (ps : List (Nat × Int)) (n : Nat) : Int := x * if i ≤ n then psum ps (n - i) else 0
theorem inn_snoc (x : Int) (i : Nat) (ps : List (Nat × Int)) (p : Nat × Int) (n : Nat) : inn x i (ps ++ [p]) n = inn x i ps n + if i + p.1 = n then x * p.2 else 0 := by
  unfold inn
  by_cases h : i ≤ n
  · rw [if_pos h, if_pos h, psum_append]
    show x * (_ + ((if p.1 = n - i then p.2 else 0) + 0)) = _
    rw [Int.add_zero, Int.mul_add]
    congr 1
    by_cases e : i + p.1 = n
    · rw [if_pos e, if_pos (by omega)]
    · rw [if_neg e, if_neg (by omega), Int.mul_zero]
  · rw [if_neg h, if_neg h, if_neg (by omega), Int.add_zero]
theorem inn_all (x : Int) (i : Nat) (ys : List Int) (n : Nat) : inn x i (prs ys ys.length) n = x * shl ys i n := by
  unfold inn shl
  rw [psum_all]
theorem list_of_get {a b : List Int} (hl : a.length = b.length) (h : ∀ n, a.getD n 0 = b.getD n 0) : a = b := by
  refine List.ext_getElem hl fun n h1 h2 => ?_
  have := h n
  rw [List.getD_eq_getElem?_getD, List.getD_eq_getElem?_getD, List.getElem?_eq_getElem h1, List.getElem?_eq_getElem h2] at this
  exact this
/-! ### a walk of a list or a tuple -/
def ItQ (K : PySem.W.Frag) : Bool → Addr → It
  | true, a => Itt K a
  | false, a => Itl K a
theorem walk_Q {K : PySem.W.Frag} {b : Bool} {a : Addr} {xs : List V} : Walk (ItQ K b a) xs.length (fun H => SqB K b H a xs) (YAt xs) := by
  cases b
  · exact walk_list
  · exact walk_tup
def iSqB (K : PySem.W.Frag) (tl : TE) : TI := fun σ H R => tl σ H fun x H1 => ∃ b a xs, x = .ref a ∧ SqB K b H1 a xs ∧ R (ItQ K b a) H1
theorem pi_sqB {X : Cx} {K : PySem.W.Frag} {tg l : Expr} {tl : TE} (hl : PE X l tl) (hK : X.K = K := by rfl) : PI X tg l (iSqB K tl) := by
  subst hK
  refine ⟨fun pins s σ H R I h => (pi_sq (tl := upE tl) hl.up).run pins s σ H R I ⟨_, h, fun x H1 z => ?_⟩⟩
  obtain ⟨b, a, xs, e, hq, r⟩ := z
  cases b
  · exact ⟨a, e, .inl ⟨xs, hq, r⟩⟩
  · exact ⟨a, e, .inr ⟨xs, hq, r⟩⟩
theorem lcN_at {K : PySem.W.Frag} {g : TG} {tt : TT} {te : TE} {vs : List Nat} {σ : L2.St} {H1 : Hp} {D : Addr} {Qd : Hp → Prop} {J : It} {n : Nat} {G : Hp → Prop} {xs : List V}
    (wk : Walk J n G (YAt xs)) (I : Nat → List V → Hp → Prop) (h0 : I 0 [] H1) (hl : ∀ i acc H, i ≤ n → I i acc H → H D = some (.lst acc) → G H)
    (hs : ∀ i x acc H, xs[i]? = some x → I i acc H → H D = some (.lst acc) → g x (wipe σ vs) H fun σ2 H2 => wipe σ2 vs = wipe σ vs ∧ tt σ2 H2 fun b H3 =>
      if b = true then te σ2 H3 fun y H4 => H4 D = some (.lst acc) ∧ acc.length < sizeLine ∧ ∀ H5, SameBut D H4 H5 → H5 D = some (.lst (acc ++ [y])) → I (i + 1) (acc ++ [y]) H5 else H3 D = some (.lst acc) ∧ I (i + 1) acc H3)
    (hd : ∀ acc H, I n acc H → H D = some (.lst acc) → Qd H) : LcGoal J g tt te vs σ H1 D Qd := by
  refine ⟨fun i m acc H => m = n - i ∧ i ≤ n ∧ I i acc H, ⟨n, by simp, Nat.zero_le _, h0⟩, ?_⟩
  rintro i m acc H ⟨rfl, hi, p⟩ eD
  have q := hl i acc H hi p eD
  rcases Nat.lt_or_ge i n with lt | ge
  · refine .inr ⟨wk.goes i H lt q, I (i + 1), fun acc' H' p' => ⟨n - (i + 1), by omega, rfl, lt, p'⟩, fun x H' y => ?_⟩
    obtain ⟨rfl, hx⟩ := wk.yields i H x H' lt q y
    exact hs i x acc _ hx p eD
  · obtain rfl : i = n := Nat.le_antisymm hi ge
    exact .inl ⟨wk.stops H q, hd acc H p eD⟩
theorem sum_le {B : Int} : ∀ {ws : List Int}, (∀ x ∈ ws, 0 ≤ x ∧ x ≤ B) → 0 ≤ ws.sum ∧ ws.sum ≤ ws.length * B
  | [], _ => ⟨Int.le_refl _, by simp⟩
  | x :: r, h => by
    have h1 := h x (List.mem_cons_self ..)
    have h2 := sum_le (ws := r) fun y hy => h y (List.mem_cons_of_mem _ hy)
    rw [List.sum_cons, List.length_cons]
    have e : ((r.length + 1 : Nat) : Int) * B = (r.length : Int) * B + B := by
      rw [Int.natCast_add, Int.add_mul]
      show _ + 1 * B = _
      rw [Int.one_mul]
    omega
end Pl

set_option Elab.async false
set_option linter.all false
set_option maxRecDepth 100000
set_option maxHeartbeats 2000000
namespace Pl
open PySem PySem.Spec PyProof.Rows L2 RZ
/-! ### x == y of an instance with an own __eq__: y such an instance, or a tuple -/
def rOwnEq (K : PySem.W.Frag) (C : Addr) (sp : Sp) (E : XK) : R2 := fun x y H Q => ∃ a dx fs b, x = .ref a ∧ y = .ref b ∧ H a = some (.ins C dx fs) ∧ ((∃ dy gs, H b = some (.ins C dy gs)) ∨ ∃ xs, SqT K H b xs) ∧ sp [.ref a, .ref b] H Q E
theorem op_ownEq {X : Cx} {CX : CXT} {K : PySem.W.Frag} {C f : Addr} {fd : FuncData} {ps : List Str} {sp : Sp} {E : XK} {k : Nat} (hm : Meth X.K C "__eq__" f) (ht : (PySem.W.subIn X.K (.type "tuple") (.ref C) == some false) = true)
    (F : FnOk X.prog X.w X.K X.mg X.base CX k f fd ps sp) (hr : Room k X.A) (hb : Binds X.K fd ps []) (hx : Passes CX X E) (hK : X.K = K := by rfl) : OpR X (compareOp .Eq) (rOwnEq K C sp E) := by
  subst hK
  have ht := eq_of_beq ht
  intro pins s σ H x' y v u Q I rx ry h
  obtain ⟨a, dx, fs, b, rfl, rfl, ha, hb', hsp⟩ := h
  cases rx
  cases ry
  obtain ⟨mA, J, _⟩ := ins_get I.hok ha
  obtain ⟨od, J, _⟩ := J.look
  obtain ⟨m, hF⟩ := I.fr
  have run := wpAny_mono (run_fn (us := [.ref a, .ref b]) (vs := [.ref a, .ref b]) F hr hb .nil hx I (.cons rfl (.cons rfl .nil)) hsp) (fun v s' q => cmpBack_of q) fun _ _ z => z
  rcases hb' with ⟨dy, gs, hb'⟩ | ⟨xs, hT⟩
  · obtain ⟨mB, J', _⟩ := ins_get I.hok hb'
    obtain ⟨od', J', _⟩ := J'.look
    exact PySem.W.cmp_K (op := .Eq) (tb := .ref C) hr.units0 hF I.ok.mod.kin J J'.type (by simp [PySem.W.notFirst]) hm.at_ hm.fn run
  · obtain ⟨its, rv, ⟨o, e, hc, _⟩, _⟩ := I.tuple hT
    refine PySem.W.cmp_K (op := .Eq) (tb := .type "tuple") hr.units0 hF I.ok.mod.kin J (fun A Q E s' kp q => wpAny_typeOf_ref (kp _ _ e) (by rw [hc]; exact q)) (by simp [PySem.W.notFirst, ht]) hm.at_ hm.fn run
/-! ### isinstance(x, C), x an instance of C or a tuple -/
def insB (K : PySem.W.Frag) (C : Addr) : Bool :=
  decide (PySem.W.findIn K (.ref C) "__class__" = some (some (.builtin "object.__class__"))) && (decide (PySem.W.specialIn K (.builtin "object.__class__") "__get__" = some (some (.builtin "getset_descriptor.__get__"))) &&
    ((PySem.W.takesIn K (.builtin "object.__class__") == some true) && ((PySem.W.mroIn K C (.type "object") == some true) && ((PySem.W.kitOne K (.ref C) (.ref C) == some true) && (PySem.W.kitOne K (.type "tuple") (.ref C) == some false)))))
def rIsiN (K : PySem.W.Frag) (C : Addr) : List V → Hp → VK → Prop := fun xs H Q => ∃ b, xs = [.ref b, .ref C] ∧ ((∃ dy gs, H b = some (.ins C dy gs) ∧ Q (.bl true) H) ∨ ∃ ys, SqT K H b ys ∧ Q (.bl false) H)
theorem call_isiK {X : Cx} {K : PySem.W.Frag} {C : Addr} (cl : Cls K C) (ib : insB K C = true) (hK : X.K = K := by rfl) : CallR X (.builtin "isinstance") (rIsiN K C) := by
  subst hK
  simp only [insB, Bool.and_eq_true, decide_eq_true_eq, beq_iff_eq] at ib
  obtain ⟨h1, h2, h3, h4, h5, h6⟩ := ib
  intro pins s σ H xs us Q I r h
  obtain ⟨b, rfl, h⟩ := h
  rcases h with ⟨dy, gs, hb, q⟩ | ⟨ys, hT, q⟩
  · exact call_isi pins s σ H _ us Q I r ⟨_, _, _, _, true, rfl, .own C, .base (.ins hb cl h1 h2 h3 h4), h5, q⟩
  · have ty : TyX X.K H (.ref b) (.type "tuple") := by
      rcases hT with (h | ⟨o, h⟩) | ⟨o, its, n, hk, hc, _⟩
      · exact .base (.tup h)
      · exact .fTuple h
      · exact .kTuple hk hc
    exact call_isi pins s σ H _ us Q I r ⟨_, _, _, _, false, rfl, .own C, ty, h6, q⟩
/-! ### lists of the same value at each width have the same entries -/
theorem bound_of (l : List Int) : ∃ m : Nat, ∀ x ∈ l, x.natAbs < 2 ^ m := by
  induction l with
  | nil => exact ⟨0, fun x h => by simp at h⟩
  | cons a l ih =>
    obtain ⟨m, hm⟩ := ih
    refine ⟨m + a.natAbs + 1, fun x h => ?_⟩
    rcases List.mem_cons.mp h with h | h
    · subst h
      exact Nat.lt_of_lt_of_le (Nat.lt_pow_self (by decide : 1 < 2)) (Nat.pow_le_pow_right (by decide) (by omega))
    · exact Nat.lt_of_lt_of_le (hm x h) (Nat.pow_le_pow_right (by decide) (by omega))
theorem val_inj {a b : List Int} (h : ∀ w, val a w = val b w) (i : Nat) : a.getD i 0 = b.getD i 0 := by
  obtain ⟨m, hm⟩ := bound_of (a ++ b)
  have bd : ∀ l : List Int, (∀ x ∈ l, x.natAbs < 2 ^ m) → balL (val l (m + 1)) (m + 1) (a.length + b.length) = ent l (a.length + b.length) := fun l hl => (bal_iff l (by omega) _).mpr fun i _ => by
    have := getD_small (Nat.pow_pos (by decide)) hl i
    show -(2 ^ m) ≤ _ ∧ _ < (2 : Int) ^ m
    have e : (2 : Int) ^ m = ((2 ^ m : Nat) : Int) := by rw [Int.natCast_pow] <;> rfl
    rw [e]
    omega
  have ea := bd a fun x hx => hm x (List.mem_append_left _ hx)
  have eb := bd b fun x hx => hm x (List.mem_append_right _ hx)
  rw [h, eb] at ea
  rcases Nat.lt_or_ge i (a.length + b.length) with lt | ge
  · have e := congrArg (fun l : List Int => l[i]?) ea
    unfold ent at e
    rw [List.getElem?_map, List.getElem?_map, List.getElem?_range lt] at e
    exact (Option.some.inj e).symm
  · rw [List.getD_eq_getElem?_getD, List.getD_eq_getElem?_getD, List.getElem?_eq_none (by omega), List.getElem?_eq_none (by omega)]
theorem stpN_last (xs : List Int) : ∀ n, stpN xs n = 0 ∨ xs.getD (stpN xs n - 1) 0 ≠ 0
  | 0 => .inl rfl
  | n + 1 => by
    have e : stpN xs (n + 1) = if xs.getD n 0 = 0 then stpN xs n else n + 1 := rfl
    rw [e]
    by_cases h : xs.getD n 0 = 0
    · rw [if_pos h]
      exact stpN_last xs n
    · rw [if_neg h]
      exact .inr (by rw [Nat.add_sub_cancel]; exact h)
theorem stp_len (xs : List Int) : (stp xs).length = stpN xs xs.length := by
  unfold stp
  rw [List.length_take]
  exact Nat.min_eq_left (stpN_le xs _)
theorem stp_le_of_get {a b : List Int} (h : ∀ i, a.getD i 0 = b.getD i 0) : (stp a).length ≤ (stp b).length := by
  rcases Nat.lt_or_ge (stp b).length (stp a).length with lt | ge
  · have e := stp_len a
    rcases stpN_last a a.length with z | z
    · omega
    · exfalso
      refine z ?_
      rw [← e, h, ← stp_get, List.getD_eq_getElem?_getD, List.getElem?_eq_none (by omega)]
      rfl
  · exact ge
theorem stp_of_get {a b : List Int} (h : ∀ i, a.getD i 0 = b.getD i 0) : stp a = stp b :=
  list_of_get (Nat.le_antisymm (stp_le_of_get h) (stp_le_of_get fun i => (h i).symm)) fun n => by rw [stp_get, stp_get, h]
theorem stp_of_val {a b : List Int} (h : ∀ w, val a w = val b w) : stp a = stp b := stp_of_get (val_inj h)
end Pl

set_option Elab.async false
set_option linter.all false
set_option maxRecDepth 100000
set_option maxHeartbeats 2000000
namespace Pl
open PySem PySem.Spec PyProof.Rows L2 RZ
/-! ### a step of a division, lane by lane -/
theorem drop_get (l : List Int) (k n : Nat) : (l.drop k).getD n 0 = l.getD (k + n) 0 := by
  rw [List.getD_eq_getElem?_getD, List.getD_eq_getElem?_getD, List.getElem?_drop]
theorem take_get (l : List Int) (k n : Nat) : (l.take k).getD n 0 = if n < k then l.getD n 0 else 0 := by
  rw [List.getD_eq_getElem?_getD, List.getElem?_take]
  split
  · rw [List.getD_eq_getElem?_getD]
  · rfl
theorem up_get (ys : List Int) (i n : Nat) : (List.replicate i (0 : Int) ++ ys).getD n 0 = shl ys i n := by
  unfold shl
  rw [List.getD_eq_getElem?_getD, List.getElem?_append, List.length_replicate]
  by_cases h : n < i
  · rw [if_pos h, if_neg (by omega), List.getElem?_replicate, if_pos h]
    rfl
  · rw [if_neg h, if_pos (by omega), List.getD_eq_getElem?_getD]
theorem shl_scale (x : Int) (ys : List Int) (i n : Nat) : shl (ys.map (x * ·)) i n = x * shl ys i n := by
  unfold shl
  split
  · exact map_get_scale x ys _
  · rw [Int.mul_zero]
theorem val_up (ys : List Int) (w : Nat) : ∀ i, val (List.replicate i (0 : Int) ++ ys) w = 2 ^ (w * i) * val ys w
  | 0 => by
    show val ys w = 2 ^ (w * 0) * val ys w
    rw [Nat.mul_zero, Int.pow_zero, Int.one_mul]
  | i + 1 => by
    show 0 + 2 ^ w * val (List.replicate i (0 : Int) ++ ys) w = _
    rw [val_up ys w i, Int.zero_add, ← Int.mul_assoc, ← Int.pow_add, Nat.mul_succ, Nat.add_comm]
theorem get_of {l : List Int} {n : Nat} (h : n < l.length) : l[n]? = some (l.getD n 0) := by
  rw [List.getD_eq_getElem?_getD, List.getElem?_eq_getElem h]
  rfl
theorem val_take_succ (l : List Int) (w : Nat) {n : Nat} (h : n < l.length) : val (l.take (n + 1)) w = val (l.take n) w + 2 ^ (w * n) * l.getD n 0 := by
  rw [take_snoc (get_of h), val_append, List.length_take, Nat.min_eq_left (Nat.le_of_lt h)]
  show _ + _ * (l.getD n 0 + 2 ^ w * 0) = _
  rw [Int.mul_zero, Int.add_zero]
theorem quot_step {ds L L' : List Int} {X : Int} {j top w : Nat} (hds : ds.length = top + 1) (hm : ds.getD top 0 = 1) (hL : j + 1 + top ≤ L.length) (hl : L'.length = L.length)
    (hg : ∀ n, L'.getD n 0 = L.getD n 0 - L.getD (j + top) 0 * shl (ds.take top) j n)
    (h : X = 2 ^ (w * (j + 1)) * val (L.drop (j + 1 + top)) w * val ds w + val (L.take (j + 1 + top)) w) :
    X = 2 ^ (w * j) * val (L'.drop (j + top)) w * val ds w + val (L'.take (j + top)) w := by
  have hdl : (ds.take top).length = top := by rw [List.length_take]; omega
  have e1 : L'.drop (j + top) = L.getD (j + top) 0 :: L.drop (j + 1 + top) := by
    refine list_of_get ?_ fun n => ?_
    · rw [List.length_drop, List.length_cons, List.length_drop]
      omega
    · rw [drop_get, hg, shl_out (.inr (by rw [hdl]; omega)), Int.mul_zero, Int.sub_zero]
      cases n with
      | zero => rfl
      | succ n =>
        show _ = (L.drop (j + 1 + top)).getD n 0
        rw [drop_get, show j + top + (n + 1) = j + 1 + top + n by omega]
  have e2 : val (L'.take (j + top)) w = val (L.take (j + top)) w + -L.getD (j + top) 0 * (2 ^ (w * j) * val (ds.take top) w) := by
    have key : val (L'.take (j + top)) w = val (addL (L.take (j + top)) (List.replicate j 0 ++ (ds.take top).map (-L.getD (j + top) 0 * ·))) w := by
      refine val_congr w (j + top + top) _ _ (by rw [List.length_take]; omega) ?_ fun n => ?_
      · rw [addL_length, List.length_take, List.length_append, List.length_replicate, List.length_map, hdl]
        omega
      · rw [addL_get, take_get, take_get, up_get, shl_scale]
        by_cases hn : n < j + top
        · rw [if_pos hn, if_pos hn, hg, Int.neg_mul, Int.sub_eq_add_neg]
        · rw [if_neg hn, if_neg hn, shl_out (.inr (by rw [hdl]; omega)), Int.mul_zero]
          rfl
    rw [key, val_addL, val_up, val_scale, Int.mul_left_comm]
  have e3 : val (L.take (j + 1 + top)) w = val (L.take (j + top)) w + 2 ^ (w * (j + top)) * L.getD (j + top) 0 := by
    rw [show j + 1 + top = (j + top) + 1 by omega, val_take_succ L w (by omega)]
  have e4 : val ds w = val (ds.take top) w + 2 ^ (w * top) := by
    have := val_take_succ ds w (n := top) (by omega)
    rw [List.take_of_length_le (by omega), hm, Int.mul_one] at this
    exact this
  have p1 : (2 : Int) ^ (w * (j + 1)) = 2 ^ (w * j) * 2 ^ w := by rw [Nat.mul_succ, Int.pow_add]
  have p2 : (2 : Int) ^ (w * (j + top)) = 2 ^ (w * j) * 2 ^ (w * top) := by rw [Nat.mul_add, Int.pow_add]
  rw [e1, e2]
  show X = 2 ^ (w * j) * (L.getD (j + top) 0 + 2 ^ w * val (L.drop (j + 1 + top)) w) * val ds w + _
  rw [h, e3, e4, p1, p2]
  generalize val (L.drop (j + 1 + top)) w = A
  generalize val (L.take (j + top)) w = T
  generalize val (ds.take top) w = D
  generalize L.getD (j + top) 0 = t
  generalize (2 : Int) ^ (w * j) = P
  generalize (2 : Int) ^ (w * top) = W
  generalize (2 : Int) ^ w = V
  grind
/-! ### quotient and rest are the only ones -/
theorem lead_zero {e ds : List Int} {top : Nat} (hdl : ds.length = top + 1) (hm : ds.getD top 0 = 1) (h : ∀ n, top ≤ n → conv (stp e) ds (stp e).length n = 0) : stp e = [] := by
  rcases Nat.eq_zero_or_pos (stp e).length with z | pos
  · exact List.eq_nil_of_length_eq_zero z
  · exfalso
    obtain ⟨k, hk⟩ : ∃ k, (stp e).length = k + 1 := ⟨(stp e).length - 1, by omega⟩
    have hlast : (stp e).getD k 0 ≠ 0 := by
      rw [stp_get]
      rcases stpN_last e e.length with z | z
      · have := stp_len e
        omega
      · rw [show k = stpN e e.length - 1 by have := stp_len e; omega]
        exact z
    have low : ∀ t, t ≤ k → conv (stp e) ds t (k + top) = 0 := by
      intro t
      induction t with
      | zero => intro _; rfl
      | succ t ih =>
        intro ht
        show conv (stp e) ds t (k + top) + _ * shl ds t (k + top) = 0
        rw [ih (by omega), shl_out (.inr (by omega)), Int.mul_zero]
        rfl
    have hz := h (k + top) (by omega)
    rw [hk] at hz
    have e1 : conv (stp e) ds (k + 1) (k + top) = conv (stp e) ds k (k + top) + (stp e).getD k 0 * shl ds k (k + top) := rfl
    have e2 : shl ds k (k + top) = 1 := by
      unfold shl
      rw [if_pos (by omega), show k + top - k = top by omega]
      exact hm
    rw [e1, low k (Nat.le_refl _), e2, Int.mul_one, Int.zero_add] at hz
    exact hlast hz
theorem quot_unique {ds q q' r r' : List Int} {top : Nat} (hdl : ds.length = top + 1) (hm : ds.getD top 0 = 1) (hr : r.length ≤ top) (hr' : r'.length ≤ top)
    (h : ∀ w, val q w * val ds w + val r w = val q' w * val ds w + val r' w) : stp q = stp q' ∧ stp r = stp r' := by
  have ve : ∀ w, val (addL q (q'.map (-1 * ·))) w = val q w - val q' w := fun w => by
    rw [val_addL, val_scale]
    omega
  have he : stp (addL q (q'.map (-1 * ·))) = [] := by
    refine lead_zero hdl hm fun n hn => ?_
    have key : ∀ n, (mulP (stp (addL q (q'.map (-1 * ·)))) ds).getD n 0 = (addL r' (r.map (-1 * ·))).getD n 0 := val_inj fun w => by
      rw [val_mulP, val_stp, ve, val_addL, val_scale]
      have := h w
      generalize val q w = a at *
      generalize val q' w = b at *
      generalize val ds w = d at *
      generalize val r w = x at *
      generalize val r' w = y at *
      grind
    rw [← mulP_get, key n, addL_get, map_get_scale, List.getD_eq_getElem?_getD, List.getD_eq_getElem?_getD, List.getElem?_eq_none (by omega), List.getElem?_eq_none (by omega)]
    rfl
  have hq : ∀ w, val q w = val q' w := fun w => by
    have h1 := ve w
    rw [← val_stp, he] at h1
    have h2 : (0 : Int) = val q w - val q' w := h1
    omega
  refine ⟨stp_of_val hq, stp_of_val fun w => ?_⟩
  have := h w
  rw [hq w] at this
  omega
end Pl

set_option Elab.async false
set_option linter.all false
set_option maxRecDepth 100000
set_option maxHeartbeats 2000000
namespace L2
open PySem PySem.Spec PyProof.Rows RZ
section
variable {X : Cx} {K : PySem.W.Frag}
/-- xs[lo::e], e a written number of any kind -/
theorem pe_slStepE {e es : Expr} {lo : Option Expr} {te ts : TE} {tl : TO} {j : Int} {p3 pos : Pos} (he : PE X e te) (hl : PO X lo tl) (hs : PE X es ts) (hts : ∀ σ H Q, Q (V.int j) H → ts σ H Q) (hj : j ≠ 0) (hK : X.K = K := by rfl) :
    PE X (.Subscript e (.Slice lo none (some es) p3) pos) (tSlStep K te tl j) := by
  subst hK
  refine ⟨fun pins s σ H Q I h => ?_⟩
  refine Subscript_ (thn (he.run pins s σ H _ I h) fun v s1 ⟨x, H1, I1, r1, q1⟩ => ?_)
  have hst : PO X (some es) (tPart ts) := po_some hs
  refine wpAny_Slice (thn (hl.run pins s1 σ H1 _ I1 q1) fun vl s2 ⟨l, H2, I2, pl, q2⟩ => ?_)
  obtain ⟨a, xs, ex, hx, q⟩ := q2
  subst ex
  cases r1
  refine thn (po_none.run pins s2 σ H2 (fun o H3 => o = none ∧ H3 = H2) I2 ⟨rfl, rfl⟩) fun vu s3 ⟨u, H3, I3, pu, eu, e3⟩ => ?_
  subst eu e3
  refine thn (hst.run pins s3 σ H3 (fun o H4 => o = some j ∧ H4 = H3) I3 (hts _ _ _ ⟨j, rfl, rfl, rfl⟩)) fun vs s4 ⟨o, H4, I4, ps, eo, e4⟩ => ?_
  subst eo e4
  have I5 : Inv X pins σ H4 { s4 with heap := s4.heap.push { cls := .type "slice", data := .fields #[vl, vu, vs] } } := I4.kept (t' := s4.toks) fun b ob q => Heap.get?_push_of_some _ q
  obtain ⟨its, r, ht, hz⟩ := I5.list hx
  have hlen := r.length
  show wpAny (model X.prog X.w) X.A (subscriptTail e (.Slice lo none (some es) p3) (.ref a) (.ref s4.heap.objs.size)) (EP X pins σ Q) X.xe { s4 with heap := s4.heap.push { cls := .type "slice", data := .fields #[vl, vu, vs] } }
  refine tail_any (ops := [.ref a, .ref s4.heap.objs.size]) ht.isList.typeIs (PySem.slot_list_getitem.lookup) ?_ (by with_unfolding_all rfl)
  refine wpAny_getItem_list_slice ht.isList (Heap.IsSliceOf.new _ vl vu vs) pl pu ps (by simpa using hj) ?_ (by rw [List.size_toArray]; omega)
  have e : slicePick its.toArray l none (some j) = ((sliceRange (sliceBounds l none (some j) xs.length).1 (sliceBounds l none (some j) xs.length).2.1 (sliceBounds l none (some j) xs.length).2.2).filterMap (its[·]?)).toArray := by
    unfold slicePick
    rw [List.size_toArray, ← hlen]
    simp
  have hle : (slicePick its.toArray l none (some j)).size ≤ its.toArray.size := slicePick_size_le _ _ _ _
  rw [e] at hle ⊢
  have vp := vals_pick r (sliceRange (sliceBounds l none (some j) xs.length).1 (sliceBounds l none (some j) xs.length).2.1 (sliceBounds l none (some j) xs.length).2.2)
  refine ⟨.ref _, _, I5.laid (t' := s4.toks) (o := .lst (pickV xs l j)) (fun b ob q => Heap.get?_push_of_some _ q) (Nat.le_refl _) ?_, rfl, q.go _ (I5.hok.fresh (Nat.le_refl _))⟩
  refine ⟨?_, _, 0, vp, Heap.get?_push_size _ rfl⟩
  have h2 : (pickV xs l j).length = _ := vp.length
  rw [h2]
  rw [List.size_toArray, List.size_toArray] at hle
  omega
/-- xs[::-1] -/
theorem pe_slRev {e : Expr} {te : TE} {k : Nat} {p1 p2 p3 pos : Pos} (he : PE X e te) (hK : X.K = K := by rfl) :
    PE X (.Subscript e (.Slice none none (some (.UnaryOp .USub (.Constant (.int 1) k p1) p2)) p3) pos) (tSlStep K te tNoPart (-1)) :=
  pe_slStepE he po_none (pe_un un_neg pe_int) (fun σ H Q q => ⟨1, rfl, q⟩) (by decide) hK
end
theorem pick_rev (xs : List V) : pickV xs none (-1) = xs.reverse := by
  have e : pickV xs none (-1) = ((List.range xs.length).map fun i => xs.length - 1 - i).filterMap (xs[·]?) := by
    unfold pickV sliceBounds sliceRange
    simp only [Option.getD_some, Option.getD_none]
    congr 1
    cases hn : xs.length with
    | zero => simp
    | succ n =>
      simp
      try congr 1
      all_goals first
        | omega
        | (funext i; omega)
        | (congr 1; omega)
  rw [e]
  refine List.ext_getElem? fun i => ?_
  rw [pick_by xs (fun i => xs.length - 1 - i) _ (fun i hi => by omega)]
  split
  · rename_i h
    rw [List.getElem?_reverse h]
  · rw [List.getElem?_eq_none (by simp; omega)]
theorem pick_evens0 (xs : List V) : pickV xs (some 0) 2 = Pl.evens xs := by
  rw [← pick_evens]
  unfold pickV sliceBounds
  simp
  rw [show max (0 : Int) (min 0 (xs.length : Int)) = 0 by omega]
end L2
namespace Pl
/-! ### division by (-c, 1), by (-1, 0, 1) -/
def hor (c : Int) : List Int → Int
  | [] => 0
  | x :: r => x + c * hor c r
def horQ (c : Int) : List Int → List Int
  | [] => []
  | _ :: r => hor c r :: horQ c r
theorem hor_div (c : Int) (w : Nat) : ∀ xs, val xs w = val (horQ c xs) w * val [-c, 1] w + val [hor c xs] w
  | [] => by
    show (0 : Int) = 0 * _ + (0 + 2 ^ w * 0)
    rw [Int.zero_mul, Int.mul_zero]
    rfl
  | x :: r => by
    have ih := hor_div c w r
    show x + 2 ^ w * val r w = (hor c r + 2 ^ w * val (horQ c r) w) * (-c + 2 ^ w * (1 + 2 ^ w * 0)) + (x + c * hor c r + 2 ^ w * 0)
    have ih2 : val r w = val (horQ c r) w * (-c + 2 ^ w * (1 + 2 ^ w * 0)) + (hor c r + 2 ^ w * 0) := ih
    generalize val r w = A at *
    generalize val (horQ c r) w = B at *
    generalize hor c r = h at *
    generalize (2 : Int) ^ w = V at *
    subst ih2
    grind
theorem hor_one : ∀ xs, hor 1 xs = xs.sum
  | [] => rfl
  | x :: r => by
    show x + 1 * hor 1 r = _
    rw [hor_one r, Int.one_mul, List.sum_cons]
def twoQ : List Int → List Int
  | _ :: _ :: r => (evens r).sum :: (odds r).sum :: twoQ r
  | _ => []
theorem two_div (w : Nat) : ∀ xs, val xs w = val (twoQ xs) w * val [-1, 0, 1] w + val [(evens xs).sum, (odds xs).sum] w
  | [] => by
    show (0 : Int) = 0 * _ + (0 + 2 ^ w * (0 + 2 ^ w * 0))
    simp
  | [a] => by
    show a + 2 ^ w * 0 = 0 * _ + (([a] : List Int).sum + 2 ^ w * (([] : List Int).sum + 2 ^ w * 0))
    simp
  | a :: b :: r => by
    have ih := two_div w r
    show a + 2 ^ w * (b + 2 ^ w * val r w) = ((evens r).sum + 2 ^ w * ((odds r).sum + 2 ^ w * val (twoQ r) w)) * (-1 + 2 ^ w * (0 + 2 ^ w * (1 + 2 ^ w * 0))) + ((a :: evens r).sum + 2 ^ w * ((b :: odds r).sum + 2 ^ w * 0))
    have ih2 : val r w = val (twoQ r) w * (-1 + 2 ^ w * (0 + 2 ^ w * (1 + 2 ^ w * 0))) + ((evens r).sum + 2 ^ w * ((odds r).sum + 2 ^ w * 0)) := ih
    rw [List.sum_cons, List.sum_cons]
    generalize val r w = A at *
    generalize val (twoQ r) w = B at *
    generalize (evens r).sum = h at *
    generalize (odds r).sum = g at *
    generalize (2 : Int) ^ w = V at *
    subst ih2
    grind
/-- worth * c + entry, from the last entry on -/
theorem hor_fold (c : Int) : ∀ xs : List Int, xs.reverse.foldl (fun a x => a * c + x) 0 = hor c xs
  | [] => rfl
  | x :: r => by
    rw [List.reverse_cons, List.foldl_append, hor_fold c r]
    show hor c r * c + x = x + c * hor c r
    rw [Int.mul_comm, Int.add_comm]
/-- the signs by turns -/
theorem hor_alt : ∀ (xs : List Int) (s : Int), (s = 1 ∨ s = -1) → (List.zipWith (· * ·) xs ((List.range xs.length).map fun k : Nat => s * (1 - 2 * ((k : Int) % 2)))).sum = s * hor (-1) xs
  | [], s, _ => by simp [hor]
  | x :: r, s, hs => by
    have ih := hor_alt r (-s) (by omega)
    rw [List.length_cons, List.range_succ_eq_map, List.map_cons, List.map_map, List.zipWith_cons_cons, List.sum_cons]
    have e : ((fun k : Nat => s * (1 - 2 * ((k : Int) % 2))) ∘ Nat.succ) = fun k : Nat => -s * (1 - 2 * ((k : Int) % 2)) := by
      funext k
      show s * (1 - 2 * (((k + 1 : Nat) : Int) % 2)) = -s * (1 - 2 * ((k : Int) % 2))
      rcases hs with rfl | rfl <;> omega
    rw [e, ih]
    show x * (s * (1 - 2 * (((0 : Nat) : Int) % 2))) + -s * hor (-1) r = s * (x + -1 * hor (-1) r)
    rcases hs with rfl | rfl <;> simp <;> omega
theorem stp_small {xs : List Int} {A : Nat} (h : ∀ x ∈ xs, x.natAbs < A) : ∀ x ∈ stp xs, x.natAbs < A := fun x hx => h x (List.mem_of_mem_take hx)
theorem stp_monic {ds : List Int} {top : Nat} (hl : ds.length = top + 1) (hm : ds.getD top 0 = 1) : stp ds = ds := by
  unfold stp
  rw [hl, stpN_stop (.inr (by rw [Nat.add_sub_cancel, hm]; decide)), ← hl, List.take_length]
/-- the number modulo B - 1 -/
theorem val_mod (xs : List Int) (w : Nat) : val xs w % (2 ^ w - 1) = xs.sum % (2 ^ w - 1) := by
  have h := hor_div 1 w xs
  rw [hor_one] at h
  have e1 : val [-1, 1] w = 2 ^ w - 1 := by
    show -1 + 2 ^ w * (1 + 2 ^ w * 0) = _
    rw [Int.mul_zero, Int.add_zero, Int.mul_one, Int.add_comm, Int.sub_eq_add_neg]
  have e2 : val [xs.sum] w = xs.sum := by
    show xs.sum + 2 ^ w * 0 = _
    rw [Int.mul_zero, Int.add_zero]
  rw [e1, e2] at h
  rw [h, Int.add_comm, Int.mul_comm, Int.add_mul_emod_self_left]
theorem sum_append (a b : List Int) : (a ++ b).sum = a.sum + b.sum := by
  induction a with
  | nil => exact (Int.zero_add _).symm
  | cons x a ih =>
    rw [List.cons_append, List.sum_cons, List.sum_cons, ih, Int.add_assoc]
def trms (xs : List Int) (w : Nat) : List Int := (List.range xs.length).map fun k => xs.getD k 0 * 2 ^ (w * k)
theorem trms_get {xs : List Int} {w k : Nat} (h : k < xs.length) : (trms xs w)[k]? = some (xs.getD k 0 * 2 ^ (w * k)) := by
  unfold trms
  rw [List.getElem?_map, List.getElem?_range h]
  rfl
theorem trms_length (xs : List Int) (w : Nat) : (trms xs w).length = xs.length := by simp [trms]
theorem sum_trms (xs : List Int) (w : Nat) : (trms xs w).sum = val xs w := by
  have key : ∀ n, n ≤ xs.length → ((trms xs w).take n).sum = val (xs.take n) w := by
    intro n
    induction n with
    | zero => intro _; rfl
    | succ n ih =>
      intro h
      have hx : xs[n]? = some (xs.getD n 0) := by rw [List.getD_eq_getElem?_getD, List.getElem?_eq_getElem (by omega)] <;> rfl
      rw [take_snoc (trms_get (by omega)), sum_append, ih (by omega), take_snoc hx, val_append, List.length_take, Nat.min_eq_left (by omega)]
      show _ + (_ + 0) = _ + _ * (xs.getD n 0 + 2 ^ w * 0)
      rw [Int.mul_zero, Int.add_zero, Int.add_zero, Int.mul_comm (2 ^ (w * n))]
  have := key xs.length (Nat.le_refl _)
  rwa [List.take_of_length_le (by rw [trms_length]; exact Nat.le_refl _), List.take_of_length_le (Nat.le_refl _)] at this
theorem horQ_get (c : Int) : ∀ (xs : List Int) (i : Nat), i < xs.length → (horQ c xs)[i]? = some (hor c (xs.drop (i + 1)))
  | [], i, h => absurd h (Nat.not_lt_zero _)
  | x :: r, 0, _ => rfl
  | x :: r, i + 1, h => by
    show (horQ c r)[i]? = some (hor c (r.drop (i + 1)))
    exact horQ_get c r i (Nat.lt_of_succ_lt_succ h)
theorem horQ_length (c : Int) : ∀ xs : List Int, (horQ c xs).length = xs.length
  | [] => rfl
  | x :: r => by
    show (horQ c r).length + 1 = r.length + 1
    rw [horQ_length c r]
/-- division by 0, .., 0, 1 -/
theorem up_div (xs : List Int) (m w : Nat) : val xs w = val (xs.drop m) w * val (List.replicate m 0 ++ [1]) w + val (xs.take m) w := by
  rw [val_up]
  show _ = _ * (2 ^ (w * m) * (1 + 2 ^ w * 0)) + _
  rw [Int.mul_zero, Int.add_zero, Int.mul_one]
  rcases Nat.lt_or_ge xs.length m with h | h
  · rw [List.drop_of_length_le (by omega), List.take_of_length_le (by omega)]
    show _ = 0 * _ + _
    rw [Int.zero_mul, Int.zero_add]
  · have e := congrArg (fun l => val l w) (List.take_append_drop m xs)
    simp only [val_append, List.length_take, Nat.min_eq_left h] at e
    rw [← e, Int.mul_comm, Int.add_comm]
theorem stp_take (xs : List Int) (m : Nat) : stp ((stp xs).take m) = stp (xs.take m) := stp_of_get fun i => by
  rw [take_get, take_get, stp_get]
theorem stp_drop (xs : List Int) (m : Nat) : stp ((stp xs).drop m) = stp (xs.drop m) := stp_of_get fun i => by
  rw [drop_get, drop_get, stp_get]
end Pl

set_option Elab.async false
set_option linter.all false
set_option maxRecDepth 100000
set_option maxHeartbeats 2000000
/-! a head's facts with defs at any address and a Bool of one's own; properties, staticmethods, own signs -/
namespace Pl
open PySem PySem.Spec PyProof.Rows L2 RZ
abbrev AlB : Type := He.AlD × Bool
def obsBK (fa : List He.Fa) (fn : List He5.DefA) (ex : PySem.W.Frag → Bool) (K : PySem.W.Frag) : AlB := (He5.obsA fa fn K, ex K)
def obsB (n : Nat) (fa : List He.Fa) (fn : List He5.DefA) (ex : PySem.W.Frag → Bool) (g : Addr → Option Obj) : AlB := obsBK fa fn ex (He.frG g (He5.asA g n))
def SaysB (fa : List He.Fa) (fn : List He5.DefA) (ex : PySem.W.Frag → Bool) (K : PySem.W.Frag) : Prop := obsBK fa fn ex K = (He5.valA fn, true)
def hookB (n : Nat) (fa : List He.Fa) (fn : List He5.DefA) (ex : PySem.W.Frag → Bool) : PySem.W.Hook where
  α := AlB
  obs := fun s => obsB n fa fn ex s.heap.get?
  val := fun _ => (He5.valA fn, true)
  says := fun _ h => ∃ K : PySem.W.Frag, K.In h ∧ SaysB fa fn ex K
  of := fun _ _ e => ⟨_, He.frG_in, e⟩
  keeps := fun _ _ _ ⟨K, hK, c⟩ k => ⟨K, PySem.W.Frag.In.keeps hK k, c⟩
theorem obsB_eq {n : Nat} {fa : List He.Fa} {fn : List He5.DefA} {ex : PySem.W.Frag → Bool} {g : Addr → Option Obj} {s : Shared} (h : ∀ a, g a = s.heap.get? a) : obsB n fa fn ex g = (hookB n fa fn ex).obs s := by
  have e : g = s.heap.get? := funext h
  rw [e] <;> rfl
section
variable {fa : List He.Fa} {fn : List He5.DefA} {ex : PySem.W.Frag → Bool} {K : PySem.W.Frag}
theorem SaysB.a (c : SaysB fa fn ex K) : He5.SaysA fa fn K := congrArg (fun z : AlB => z.1) c
theorem SaysB.more (c : SaysB fa fn ex K) : ex K = true := congrArg (fun z : AlB => z.2) c
end
/-! ### a property -/
def propB (K : PySem.W.Frag) (C : Addr) (f : Str) : Bool :=
  He.eqO (PySem.W.findIn K (.ref C) f) (some (some (.ref (He.ma K C f)))) && (He.eqO (PySem.W.specialIn K (.ref (He.ma K C f)) "__get__") (some (some (.builtin "property.__get__"))) && (decide (PySem.W.takesIn K (.ref (He.ma K C f)) = some true) && (match PySem.W.recIn K (He.ma K C f) "property" with
    | some (.ref _ :: _) => true
    | _ => false)))
theorem propB_ok {K : PySem.W.Frag} {C : Addr} {f : Str} (h : propB K C f = true) : PropOf K C f (He.ma K C f) (He5.wf K C "property" f) := by
  obtain ⟨h1, h⟩ := He.ba h
  obtain ⟨h2, h⟩ := He.ba h
  obtain ⟨h3, h4⟩ := He.ba h
  refine ⟨He.eqO_ok h1, He.eqO_ok h2, of_decide_eq_true h3, ?_⟩
  unfold He5.wf
  split at h4
  · rename_i g r e
    exact ⟨r, by rw [e]⟩
  · cases h4
/-! ### a staticmethod, called off its class -/
structure SMet (K : PySem.W.Frag) (C : Addr) (m : Str) (p g : Addr) : Prop where
  rd : PySem.W.readsIn K C (.type "type") = true
  ga : PySem.W.specialIn K (.ref C) "__getattribute__" = some (some (.builtin "type.__getattribute__"))
  at_ : PySem.W.findCls K (.ref C) (.type "type") m = some (.get (.builtin "staticmethod.__get__") (.ref p) .none (.ref C))
  rc : ∃ rest, PySem.W.recIn K p "staticmethod" = some (.ref g :: rest)
def smetB (K : PySem.W.Frag) (C : Addr) (m : Str) : Bool := PySem.W.readsIn K C (.type "type") && (He.eqO (PySem.W.specialIn K (.ref C) "__getattribute__") (some (some (.builtin "type.__getattribute__"))) && He5.wrapB K C "staticmethod" "staticmethod.__get__" m)
theorem smetB_ok {K : PySem.W.Frag} {C : Addr} {m : Str} (h : smetB K C m = true) : SMet K C m (He.ma K C m) (He5.wf K C "staticmethod" m) := by
  obtain ⟨h1, h⟩ := He.ba h
  obtain ⟨h2, h3⟩ := He.ba h
  obtain ⟨h4, h5⟩ := He5.wrapB_ok h3
  exact ⟨h1, He.eqO_ok h2, h4, h5⟩
def tSMeth (C : Addr) (sp : Sp) (E : XK) (ta : TE) (t : TA) : TE := fun σ H Q => ta σ H fun x H1 => x = .ref C ∧ t σ H1 fun vs H2 => sp vs H2 Q E
theorem pe_smeth {X : Cx} {CX : CXT} {k : Nat} {C p g : Addr} {sp : Sp} {E : XK} {o e : Expr} {es : List Expr} {m : Str} {pos apos : Pos} {ta : TE} {t : TA} {pl : Sem Bool} {fd : FuncData} {ps : List Str} (he : PE X o ta) (c : SMet X.K C m p g)
    (F : FnOk X.prog X.w X.K X.mg X.base CX k g fd ps sp) (hr : Room k X.A) (hk : PySem.W.keepIn X.K (.ref g) = true) (hb : Binds X.K fd ps []) (hx : Passes CX X E) (ha : PA X (e :: es) t)
    (hst : starEach (e :: es) X.env = (false, eval e X.env) :: starEach es X.env := by rfl) (hpl : (backTo pos (starEach es X.env)).any (·.1) = false := by rfl)
    (ht : eval (.Call (.Attribute o m apos) (e :: es) [] pos) X.env = (do
      let ov ← eval o X.env
      standAt apos.atName
      let (f, first) ← holding [ov] (getMethod ov m pl)
      callWith pos f first (backTo pos (starEach (e :: es) X.env)) (backToKw pos (keywordEach [] X.env))) := by rfl) :
    PE X (.Call (.Attribute o m apos) (e :: es) [] pos) (tSMeth C sp E ta t) := by
  refine ⟨fun pins s σ H Q I h => ?_⟩
  refine PySem.W.methodCall_KW (pl := pl) (thn (he.run pins s σ H _ I h) fun u s1 ⟨x, H1, I1, rx, ex, q⟩ => ?_) ht
  subst ex
  obtain rfl : u = Value.ref C := rx
  obtain ⟨rest, hp⟩ := c.rc
  refine PySem.W.method_cls I1.kIn c.ga (PySem.W.cls_bind I1.kIn c.rd c.at_ (wpAny_call (PySem.W.sm_get (s := { s1 with toks := s1.toks + 1 }) I1.kIn hp (PySem.W.handed_on rfl ?_))))
  refine PySem.W.callWith_K (h₀ := X.base) I.ok.mod.kin hk (thn (ha.run pos pins _ σ H1 _ (I1.tok _) q) fun us s2 ⟨vs, H2, I2, r, q2⟩ => ⟨I2.kIn, ?_⟩) hst hpl
  exact run_fn F hr hb .nil hx I2 r (by rw [List.append_nil]; exact q2)
/-! ### own signs -/
def rUnOwn (C : Addr) (sp : Sp) (E : XK) : V → Hp → VK → Prop := fun x H Q => ∃ a dx fs, x = .ref a ∧ H a = some (.ins C dx fs) ∧ sp [.ref a] H Q E
section
variable {X : Cx} {CX : CXT} {C f : Addr} {fd : FuncData} {ps : List Str} {sp : Sp} {E : XK} {k : Nat}
theorem un_ownNeg (hm : Meth X.K C "__neg__" f) (F : FnOk X.prog X.w X.K X.mg X.base CX k f fd ps sp) (hr : Room k X.A) (hb : Binds X.K fd ps []) (hx : Passes CX X E) : UnR X (unaryOp .USub) (rUnOwn C sp E) := by
  intro pins s σ H x v Q I rx h
  obtain ⟨a, dx, fs, rfl, ha, hsp⟩ := h
  cases rx
  obtain ⟨mA, J, _⟩ := ins_get I.hok ha
  obtain ⟨od, J, _⟩ := J.look
  obtain ⟨m, hF⟩ := I.fr
  exact PySem.W.ksp_neg hF I.ok.mod.kin J hm.at_ hm.fn (run_fn (us := [.ref a]) (vs := [.ref a]) F hr hb .nil hx I (.cons rfl .nil) hsp)
theorem un_ownInv (hm : Meth X.K C "__invert__" f) (F : FnOk X.prog X.w X.K X.mg X.base CX k f fd ps sp) (hr : Room k X.A) (hb : Binds X.K fd ps []) (hx : Passes CX X E) : UnR X (unaryOp .Invert) (rUnOwn C sp E) := by
  intro pins s σ H x v Q I rx h
  obtain ⟨a, dx, fs, rfl, ha, hsp⟩ := h
  cases rx
  obtain ⟨mA, J, _⟩ := ins_get I.hok ha
  obtain ⟨od, J, _⟩ := J.look
  obtain ⟨m, hF⟩ := I.fr
  exact PySem.W.ksp_inv hF I.ok.mod.kin J hm.at_ hm.fn (run_fn (us := [.ref a]) (vs := [.ref a]) F hr hb .nil hx I (.cons rfl .nil) hsp)
/-- x op i, i an int -/
def rOwnI (C : Addr) (sp : Sp) (E : XK) : R2 := fun x y H Q => ∃ a dx fs i, x = .ref a ∧ y = .int i ∧ H a = some (.ins C dx fs) ∧ sp [.ref a, .int i] H Q E
def ownIB (K : PySem.W.Frag) (C : Addr) (op : Operator) : Bool := PySem.W.selfFirst K C && ((match PySem.W.findIn K (.ref C) (dunderR op.info.2) with
    | some none => true
    | some (some (.ref _)) => true
    | _ => false) && ((PySem.W.findIn K (.type "int") (PySem.dunder op.info.2)).isSome && ((PySem.W.findIn K (.type "int") (dunderR op.info.2)).isSome && decide (PySem.W.subIn K (.type "int") (.ref C) = some false))))
theorem op_ownI {op : Operator} {x : Str} (hm : Meth X.K C x f) (hB : ownIB X.K C op = true) (F : FnOk X.prog X.w X.K X.mg X.base CX k f fd ps sp) (hr : Room k X.A) (hb : Binds X.K fd ps []) (hx : Passes CX X E)
    (hn : PySem.dunder op.info.2 = x := by first | rfl | decide +kernel) : OpR X (binaryOp op) (rOwnI C sp E) := by
  intro pins s σ H x' y v u Q I rx ry h
  obtain ⟨a, dx, fs, i, rfl, rfl, ha, hsp⟩ := h
  cases rx
  obtain ⟨t, rfl⟩ := ry
  obtain ⟨mA, J, _⟩ := ins_get I.hok ha
  obtain ⟨od, J, _⟩ := J.look
  obtain ⟨m, hF⟩ := I.fr
  subst hn
  obtain ⟨h1, hB⟩ := He.ba hB
  obtain ⟨h2, hB⟩ := He.ba hB
  obtain ⟨h3, hB⟩ := He.ba hB
  obtain ⟨h4, h5⟩ := He.ba hB
  obtain ⟨fo, hfo⟩ := Option.isSome_iff_exists.mp h3
  obtain ⟨ro, hro⟩ := Option.isSome_iff_exists.mp h4
  obtain ⟨rc, hrc, hp⟩ : ∃ rc, PySem.W.findIn X.K (.ref C) (dunderR op.info.2) = some rc ∧ (rc = none ∨ ∃ g : Addr, rc = some (.ref g)) := by
    split at h2
    · rename_i e
      exact ⟨_, e, .inl rfl⟩
    · rename_i g e
      exact ⟨_, e, .inr ⟨g, rfl⟩⟩
    · cases h2
  refine PySem.W.ksp_binT (T := "int") hF I.ok.mod.kin J (show typeOf (.int i t) = pure (.type "int") from rfl) h1 hm.at_ hm.fn hrc hp hfo hro (of_decide_eq_true h5) ?_
  exact wpAny_mono (run_fn (us := [.ref a, .int i t]) (vs := [.ref a, .int i]) F hr hb .nil hx I (.cons rfl (.cons ⟨_, rfl⟩ .nil)) hsp) (fun v s' q => cmpBack_of q) fun _ _ z => z
end
/-! ### list(range(..)) -/
def tLstRgN (te : L2.St → Hp → (Int → Int → Hp → Prop) → Prop) : TE := fun σ H Q => te σ H fun a b H1 => RgOk a b ∧ NewL (rgV a b) H1 Q
theorem pe_listRgN {X : Cx} {e : Expr} {te : L2.St → Hp → (Int → Int → Hp → Prop) → Prop} {p pos : Pos} (hc : X.calm = true) (hg : Gl X "list") (hm : X.mg "list" = none) (he : PRg X e te) (na : starEach [e] X.env = (false, eval e X.env) :: starEach [] X.env := by rfl) :
    PE X (.Call (.Name "list" p) [e] [] pos) (tLstRgN te) := by
  have he' : PRg X e (fun σ H Q => ∃ Q0 : Int → Int → Hp → Prop, te σ H Q0 ∧ ∀ a b H1, Q0 a b H1 → Q a b H1) := fun pins s σ H Q I ⟨Q0, h, f⟩ => thn (he pins s σ H Q0 I h) fun x s' ⟨r, a, b, t, u, v, H', e1, e2, e3, e4⟩ => ⟨r, a, b, t, u, v, H', e1, e2, e3, f _ _ _ e4⟩
  exact (pe_listRg hc hg hm he' na).imp fun σ H Q h => ⟨_, h, fun a b H1 z => ⟨z.1, z.2.go⟩⟩
theorem rgV_ints (n : Nat) : rgV 0 (n : Int) = ((List.range n).map fun k : Nat => (k : Int)).map V.int := by
  unfold rgV
  rw [List.map_map, Int.sub_zero, Int.toNat_natCast]
  refine List.map_congr_left fun k _ => ?_
  show V.int (0 + (k : Int)) = V.int (k : Int)
  rw [Int.zero_add]
/-! ### a or b by truth, where both ways meet -/
def tOrTJ (K : PySem.W.Frag) (ta tb : TE) : TE := fun σ H Q => ∃ J : V → Hp → Prop, (ta σ H fun x H1 => ∃ k, TruV K x H1 k ∧ if k = true then J x H1 else tb σ H1 J) ∧ ∀ v H', J v H' → Q v H'
theorem pe_orTJ {X : Cx} {K : PySem.W.Frag} {a b : Expr} {rest : List Expr} {ta tb : TE} {pos : Pos} (ha : PE X a ta) (hb : PE X (.BoolOp .Or (b :: rest) pos) tb) (hK : X.K = K := by rfl) : PE X (.BoolOp .Or (a :: b :: rest) pos) (tOrTJ K ta tb) := by
  subst hK
  exact ⟨fun pins s σ H Q I ⟨J, h, f⟩ => thn ((pe_orT ha hb).run pins s σ H J I h) fun u s1 ⟨v, H1, I1, r, q⟩ => ⟨v, H1, I1, r, f _ _ q⟩⟩
/-- x, (y, z) -/
theorem pg_nest {X : Cx} {K : PySem.W.Frag} {i j k : Nat} {x y z : Str} {p1 p2 p3 p4 pos : Pos} {kk k2 : Nat} (hc : X.calm = true) (hN : X.N.Nodup) (hi : X.N[i]? = some x) (hj : X.N[j]? = some y) (hk : X.N[k]? = some z) (hx : Loc X.env.scope x) (hy : Loc X.env.scope y) (hz : Loc X.env.scope z)
    (hf : X.fn x = true ∨ X.env.scope.names.lookup x = some .local := by first | exact .inl rfl | exact .inr rfl | assumption) (hf2 : X.fn y = true ∨ X.env.scope.names.lookup y = some .local := by first | exact .inl rfl | exact .inr rfl | assumption) (hf3 : X.fn z = true ∨ X.env.scope.names.lookup z = some .local := by first | exact .inl rfl | exact .inr rfl | assumption) (hK : X.K = K := by rfl) :
    PG X (.Tuple [.Name x p1, .Tuple [.Name y p2, .Name z p3] k2 p4] kk pos) (gTup K 2 (gCons (gName i) (gCons (gTup K 2 (gCons (gName j) (gCons (gName k) gNil))) gNil))) :=
  hK ▸ pg_tup hc (pgs_cons (pg_name hN hi hx hf) (pgs_cons (pg_tup hc (pgs_cons (pg_name hN hj hy hf2) (pgs_cons (pg_name hN hk hz hf3) pgs_nil))) pgs_nil))
/-! ### x, y, z = a, b, c with plain local names; a cut in a block -/
def tPar3 (i j k : Nat) (ta : TA) : TS := fun D σ H => ta σ H fun vs H1 => ∃ v w z, vs = [v, w, z] ∧ D.nx (((σ.set i (some v)).set j (some w)).set k (some z)) H1
theorem ps_par3 {X : Cx} {i j k : Nat} {x y z : Str} {a b c : Expr} {ta : TA} {px py pz pt pos : Pos} {kt k2 pt2} (hc : X.calm = true) (hN : X.N.Nodup) (hi : X.N[i]? = some x) (hj : X.N[j]? = some y) (hk : X.N[k]? = some z) (hij : i ≠ j) (hik : i ≠ k) (hjk : j ≠ k)
    (hx : X.env.scope.names.lookup x = some .local) (hy : X.env.scope.names.lookup y = some .local) (hz : X.env.scope.names.lookup z = some .local) (ha : PA X [a, b, c] ta)
    (hw : swappedStores [.Tuple [.Name x px, .Name y py, .Name z pz] kt pt] (.Tuple [a, b, c] k2 pt2) X.env = pure (some [x, y, z]))
    (hs : swapsWithSole [.Tuple [.Name x px, .Name y py, .Name z pz] kt pt] (.Tuple [a, b, c] k2 pt2) pos.line X.env = pure false := by rfl) :
    PS X (.Assign [.Tuple [.Name x px, .Name y py, .Name z pz] kt pt] (.Tuple [a, b, c] k2 pt2) pos) (tPar3 i j k ta) := by
  refine ⟨fun pins s σ H D I h => ?_⟩
  rw [exec_Assign_arm]
  refine wpAny_bind (wpAny_standAt ?_)
  rw [hs]
  refine wpAny_bind (wpAny_pure ?_)
  rw [if_neg (by decide)]
  refine wpAny_bind (Tuple_ (thn (ha.run _ pins s σ H _ I h) fun us s1 ⟨vs, H1, I1, r1, q1⟩ => ?_))
  obtain ⟨v, w, u, e1, q1⟩ := q1
  subst e1
  obtain ⟨u1, u2, u3, rfl, rv, rw', ru⟩ : ∃ u1 u2 u3, us = [u1, u2, u3] ∧ RelV v u1 ∧ RelV w u2 ∧ RelV u u3 := by
    cases r1 with
    | cons p q =>
      cases q with
      | cons p' q' =>
        cases q' with
        | cons p'' q'' =>
          cases q''
          exact ⟨_, _, _, rfl, p, p', p''⟩
  refine wpAny_newObj_type ?_ (by show 3 ≤ sizeLine; decide)
  have I2 : Inv X pins σ H1 { s1 with heap := s1.heap.push { cls := .type "tuple", data := .seq [u1, u2, u3].toArray } } := I1.kept (t' := s1.toks) fun b o e => Heap.get?_push_of_some _ e
  rw [hw]
  refine wpAny_bind (wpAny_pure ?_)
  show wpAny (model X.prog X.w) X.A (do rule "assign.swapped-stores"; let items ← unpackItems (.ref s1.heap.objs.size) 3 none; assignInOrder [fun v => bindName X.env z v, fun v => bindName X.env y v, fun v => bindName X.env x v] items.reverse; pure Flow.next) _ _ _
  refine wpAny_bind (wpAny_rule (wpAny_bind (unpackItems_tuple (items := #[u1, u2, u3]) (I.ok.hd hc) (IsTup.new s1.heap _) fun h' hx' => ?_)))
  have I3 := I2.kept (h' := h') (t' := s1.toks) fun b o e => hx' b o (Nat.ne_of_lt (Heap.lt_size e)) e
  show wpAny _ _ (assignInOrder [fun v => bindName X.env z v, fun v => bindName X.env y v, fun v => bindName X.env x v] [u3, u2, u1] >>= fun _ => pure Flow.next) _ _ _
  refine wpAny_bind (assignInOrder_cons (wpAny_bindName (store_ok I3 hN hk (.inl hz) ru (fun s2 I4 => ?_) (.inr hz))))
  refine assignInOrder_cons (wpAny_bindName (store_ok I4 hN hj (.inl hy) rw' (fun s3 I5 => ?_) (.inr hy)))
  refine assignInOrder_cons (wpAny_bindName (store_ok I5 hN hi (.inl hx) rv (fun s4 I6 => assignInOrder_nil (wpAny_pure ?_)) (.inr hx)))
  have e : (((σ.set k (some u)).set j (some w)).set i (some v)) = ((σ.set i (some v)).set j (some w)).set k (some u) := by
    rw [List.set_comm _ _ hjk.symm, List.set_comm _ _ hik.symm, List.set_comm _ _ hij.symm]
  rw [e] at I6
  exact ⟨_, H1, I6, q1⟩
/-- J holds where the first statement hands on to the others -/
def tCut (t u : TS) : TS := fun D σ H => ∃ J : L2.St → Hp → Prop, t { D with nx := J } σ H ∧ ∀ σ' H', J σ' H' → u D σ' H'
theorem pss_cut {X : Cx} {st : Stmt} {rest : List Stmt} {t u : TS} (h1 : PS X st t) (h2 : PSs X rest u) : PSs X (st :: rest) (tCut t u) := by
  refine ⟨fun pins s σ H D I ⟨J, h, f⟩ => ?_⟩
  refine wpAny_execs_cons (thn (h1.run pins s σ H { D with nx := J } I h) fun f' s1 q => ?_)
  cases f' with
  | next =>
    obtain ⟨σ', H', I', q⟩ := q
    exact h2.run pins s1 σ' H' D I' (f _ _ q)
  | ret v => exact q
  | brk => exact q
  | cont => exact q
end Pl

set_option Elab.async false
set_option linter.all false
set_option maxRecDepth 100000
set_option maxHeartbeats 4000000
namespace Pl
open PySem PySem.Spec PyProof.Rows L2 RZ
def top (i : Nat) : Stmt := PySem.Challenge.pw_packedlanes_k11_whole_casting_out.main.body.getD i (.Pass ⟨0, 0, 0, 0⟩)
abbrev s_check_lanes : Stmt := top 12
theorem sc_check_lanes : FnScope ["lanes"] ["lanes"] (defScope s_check_lanes) := ⟨rfl, rfl, rfl, by decide +kernel, rfl, by decide +kernel, by decide +kernel⟩
abbrev s_check_width : Stmt := top 13
theorem sc_check_width : FnScope ["width"] ["width"] (defScope s_check_width) := ⟨rfl, rfl, rfl, by decide +kernel, rfl, by decide +kernel, by decide +kernel⟩
abbrev s_stripped : Stmt := top 14
theorem sc_stripped : FnScope ["entries", "told", "size"] ["entries"] (defScope s_stripped) := ⟨rfl, rfl, rfl, by decide +kernel, rfl, by decide +kernel, by decide +kernel⟩
abbrev s_added : Stmt := top 15
theorem sc_added : FnScope ["one", "other", "sums", "first", "second"] ["one", "other"] (defScope s_added) := ⟨rfl, rfl, rfl, by decide +kernel, rfl, by decide +kernel, by decide +kernel⟩
abbrev s_negated : Stmt := top 16
theorem sc_negated : FnScope ["entries", "worth"] ["entries"] (defScope s_negated) := ⟨rfl, rfl, rfl, by decide +kernel, rfl, by decide +kernel, by decide +kernel⟩
abbrev s_joined : Stmt := top 17
theorem sc_joined : FnScope ["entries", "width", "parts", "bits", "low", "high"] ["entries", "width"] (defScope s_joined) := ⟨rfl, rfl, rfl, by decide +kernel, rfl, by decide +kernel, by decide +kernel⟩
abbrev s_cut_in_two : Stmt := top 18
theorem sc_cut_in_two : FnScope ["number", "bits", "above"] ["number", "bits"] (defScope s_cut_in_two) := ⟨rfl, rfl, rfl, by decide +kernel, rfl, by decide +kernel, by decide +kernel⟩
abbrev s_plain_digits : Stmt := top 19
theorem sc_plain_digits : FnScope ["number", "width", "count", "lanes", "parts", "part", "half"] ["number", "width", "count"] (defScope s_plain_digits) := ⟨rfl, rfl, rfl, by decide +kernel, rfl, by decide +kernel, by decide +kernel⟩
abbrev s_balanced_size : Stmt := top 20
theorem sc_balanced_size : FnScope ["number", "width"] ["number", "width"] (defScope s_balanced_size) := ⟨rfl, rfl, rfl, by decide +kernel, rfl, by decide +kernel, by decide +kernel⟩
abbrev s_balanced_digits : Stmt := top 21
theorem sc_balanced_digits : FnScope ["number", "width", "count", "used", "half", "moved", "digits", "digit"] ["number", "width", "count"] (defScope s_balanced_digits) := ⟨rfl, rfl, rfl, by decide +kernel, rfl, by decide +kernel, by decide +kernel⟩
abbrev s__words : Stmt := top 22
theorem sc__words : FnScope ["number"] ["number"] (defScope s__words) := ⟨rfl, rfl, rfl, by decide +kernel, rfl, by decide +kernel, by decide +kernel⟩
abbrev s__greatest_bits : Stmt := top 23
theorem sc__greatest_bits : FnScope ["entries", "worth"] ["entries"] (defScope s__greatest_bits) := ⟨rfl, rfl, rfl, by decide +kernel, rfl, by decide +kernel, by decide +kernel⟩
abbrev s__product_width : Stmt := top 24
theorem sc__product_width : FnScope ["one", "other", "pairs"] ["one", "other"] (defScope s__product_width) := ⟨rfl, rfl, rfl, by decide +kernel, rfl, by decide +kernel, by decide +kernel⟩
abbrev s__product_steps : Stmt := top 25
theorem sc__product_steps : FnScope ["one", "other", "size", "times"] ["one", "other"] (defScope s__product_steps) := ⟨rfl, rfl, rfl, by decide +kernel, rfl, by decide +kernel, by decide +kernel⟩
abbrev s__packing_pays : Stmt := top 26
theorem sc__packing_pays : FnScope ["one", "other", "first", "worth", "second", "by_pairs", "packing", "width", "words", "entries"] ["one", "other"] (defScope s__packing_pays) := ⟨rfl, rfl, rfl, by decide +kernel, rfl, by decide +kernel, by decide +kernel⟩
abbrev s__product_by_pairs : Stmt := top 27
theorem sc__product_by_pairs : FnScope ["one", "other", "second", "lane", "worth", "sums", "_", "low", "factor", "high"] ["one", "other"] (defScope s__product_by_pairs) := ⟨rfl, rfl, rfl, by decide +kernel, rfl, by decide +kernel, by decide +kernel⟩
abbrev s_product : Stmt := top 28
theorem sc_product : FnScope ["one", "other", "width", "number"] ["one", "other"] (defScope s_product) := ⟨rfl, rfl, rfl, by decide +kernel, rfl, by decide +kernel, by decide +kernel⟩
abbrev s__quotient_by_lanes : Stmt := top 29
theorem sc__quotient_by_lanes : FnScope ["entries", "divisor", "top", "below", "lane", "worth", "left", "low", "times"] ["entries", "divisor"] (defScope s__quotient_by_lanes) := ⟨rfl, rfl, rfl, by decide +kernel, rfl, by decide +kernel, by decide +kernel⟩
abbrev s_quotient : Stmt := top 30
theorem sc_quotient : FnScope ["entries", "divisor", "count", "cut", "upper", "lead", "worth", "half", "high", "left", "low"] ["entries", "divisor"] (defScope s_quotient) := ⟨rfl, rfl, rfl, by decide +kernel, rfl, by decide +kernel, by decide +kernel⟩
abbrev s_quotient_and_rest : Stmt := top 31
theorem sc_quotient_and_rest : FnScope ["entries", "divisor", "times", "taken"] ["entries", "divisor"] (defScope s_quotient_and_rest) := ⟨rfl, rfl, rfl, by decide +kernel, rfl, by decide +kernel, by decide +kernel⟩
abbrev s_rest_row : Stmt := top 32
theorem sc_rest_row : FnScope ["entries", "divisor"] ["entries", "divisor"] (defScope s_rest_row) := ⟨rfl, rfl, rfl, by decide +kernel, rfl, by decide +kernel, by decide +kernel⟩
abbrev s_divided : Stmt := top 33
theorem sc_divided : FnScope ["number", "divisor", "size", "count", "half", "low", "above", "high", "left", "times"] ["number", "divisor"] (defScope s_divided) := ⟨rfl, rfl, rfl, by decide +kernel, rfl, by decide +kernel, by decide +kernel⟩
abbrev s_Row___init__ : Stmt := inClass (top 36) 0
theorem sc_Row___init__ : FnScope ["self", "entries"] ["self", "entries"] (defScope s_Row___init__) := ⟨rfl, rfl, rfl, by decide +kernel, rfl, by decide +kernel, by decide +kernel⟩
abbrev s_Row_at : Stmt := inClass (top 36) 14
theorem sc_Row_at : FnScope ["self", "width"] ["self", "width"] (defScope s_Row_at) := ⟨rfl, rfl, rfl, by decide +kernel, rfl, by decide +kernel, by decide +kernel⟩
abbrev s_Pack___init__ : Stmt := inClass (top 39) 0
theorem sc_Pack___init__ : FnScope ["self", "width", "number"] ["self", "width", "number"] (defScope s_Pack___init__) := ⟨rfl, rfl, rfl, by decide +kernel, rfl, by decide +kernel, by decide +kernel⟩
abbrev s__divided_by_row : Stmt := top 41
theorem sc__divided_by_row : FnScope ["pack", "row", "divisor"] ["pack", "row"] (defScope s__divided_by_row) := ⟨rfl, rfl, rfl, by decide +kernel, rfl, by decide +kernel, by decide +kernel⟩
abbrev s_Pack_over : Stmt := inClass (top 39) 8
theorem sc_Pack_over : FnScope ["self", "row"] ["self", "row"] (defScope s_Pack_over) := ⟨rfl, rfl, rfl, by decide +kernel, rfl, by decide +kernel, by decide +kernel⟩
abbrev s_Pack_rest : Stmt := inClass (top 39) 9
theorem sc_Pack_rest : FnScope ["self", "row"] ["self", "row"] (defScope s_Pack_rest) := ⟨rfl, rfl, rfl, by decide +kernel, rfl, by decide +kernel, by decide +kernel⟩
abbrev s_packed : Stmt := top 42
theorem sc_packed : FnScope ["row", "width"] ["row", "width"] (defScope s_packed) := ⟨rfl, rfl, rfl, by decide +kernel, rfl, by decide +kernel, by decide +kernel⟩
abbrev s__check_monic : Stmt := top 37
theorem sc__check_monic : FnScope ["row"] ["row"] (defScope s__check_monic) := ⟨rfl, rfl, rfl, by decide +kernel, rfl, by decide +kernel, by decide +kernel⟩
abbrev s_Row___floordiv__ : Stmt := inClass (top 36) 6
theorem sc_Row___floordiv__ : FnScope ["self", "other"] ["self", "other"] (defScope s_Row___floordiv__) := ⟨rfl, rfl, rfl, by decide +kernel, rfl, by decide +kernel, by decide +kernel⟩
abbrev s_Row___mod__ : Stmt := inClass (top 36) 7
theorem sc_Row___mod__ : FnScope ["self", "other"] ["self", "other"] (defScope s_Row___mod__) := ⟨rfl, rfl, rfl, by decide +kernel, rfl, by decide +kernel, by decide +kernel⟩
abbrev s_Row_down : Stmt := inClass (top 36) 12
theorem sc_Row_down : FnScope ["self", "lanes"] ["self", "lanes"] (defScope s_Row_down) := ⟨rfl, rfl, rfl, by decide +kernel, rfl, by decide +kernel, by decide +kernel⟩
abbrev s_Row_low : Stmt := inClass (top 36) 13
theorem sc_Row_low : FnScope ["self", "lanes"] ["self", "lanes"] (defScope s_Row_low) := ⟨rfl, rfl, rfl, by decide +kernel, rfl, by decide +kernel, by decide +kernel⟩
abbrev s_Row___eq__ : Stmt := inClass (top 36) 8
theorem sc_Row___eq__ : FnScope ["self", "other"] ["self", "other"] (defScope s_Row___eq__) := ⟨rfl, rfl, rfl, by decide +kernel, rfl, by decide +kernel, by decide +kernel⟩
abbrev s__law_start : Stmt := top 44
theorem sc__law_start : FnScope ["script", "first"] ["script"] (defScope s__law_start) := ⟨rfl, rfl, rfl, by decide +kernel, rfl, by decide +kernel, by decide +kernel⟩
abbrev s__law_draw : Stmt := top 45
theorem sc__law_draw : FnScope ["state", "many", "drawn", "seed", "mixed"] ["state", "many"] (defScope s__law_draw) := ⟨rfl, rfl, rfl, by decide +kernel, rfl, by decide +kernel, by decide +kernel⟩
abbrev s__law_number : Stmt := top 46
theorem sc__law_number : FnScope ["pen", "size"] ["pen"] (defScope s__law_number) := ⟨rfl, rfl, rfl, by decide +kernel, rfl, by decide +kernel, by decide +kernel⟩
abbrev s__law_list : Stmt := top 47
theorem sc__law_list : FnScope ["pen", "most", "k"] ["pen", "most"] (defScope s__law_list) := ⟨rfl, rfl, rfl, by decide +kernel, rfl, by decide +kernel, by decide +kernel⟩
abbrev s_law : Stmt := top 48
theorem sc_law : FnScope ["script", "pen", "entries", "row", "total", "signs", "k", "one", "two", "point", "worth", "entry", "turns", "lanes", "above", "turn", "width", "size", "rest", "whole"] ["script"] (defScope s_law) := ⟨rfl, rfl, rfl, by decide +kernel, rfl, by decide +kernel, by decide +kernel⟩
structure Txt (K : PySem.W.Frag) (mg : Str → Option Value) : Prop where
  F_check_lanes : ∃ fd, FunD K "check_lanes" "check_lanes" (defArgs s_check_lanes) (defBody s_check_lanes) (defScope s_check_lanes) [] [] (He.fAd K ("check_lanes", none)) fd
  F_check_width : ∃ fd, FunD K "check_width" "check_width" (defArgs s_check_width) (defBody s_check_width) (defScope s_check_width) [] [] (He.fAd K ("check_width", none)) fd
  F_stripped : ∃ fd, FunD K "stripped" "stripped" (defArgs s_stripped) (defBody s_stripped) (defScope s_stripped) [] [] (He.fAd K ("stripped", none)) fd
  F_added : ∃ fd, FunD K "added" "added" (defArgs s_added) (defBody s_added) (defScope s_added) [] [] (He.fAd K ("added", none)) fd
  F_negated : ∃ fd, FunD K "negated" "negated" (defArgs s_negated) (defBody s_negated) (defScope s_negated) [] [] (He.fAd K ("negated", none)) fd
  F_joined : ∃ fd, FunD K "joined" "joined" (defArgs s_joined) (defBody s_joined) (defScope s_joined) [] [] (He.fAd K ("joined", none)) fd
  F_cut_in_two : ∃ fd, FunD K "cut_in_two" "cut_in_two" (defArgs s_cut_in_two) (defBody s_cut_in_two) (defScope s_cut_in_two) [] [] (He.fAd K ("cut_in_two", none)) fd
  F_plain_digits : ∃ fd, FunD K "plain_digits" "plain_digits" (defArgs s_plain_digits) (defBody s_plain_digits) (defScope s_plain_digits) [] [] (He.fAd K ("plain_digits", none)) fd
  F_balanced_size : ∃ fd, FunD K "balanced_size" "balanced_size" (defArgs s_balanced_size) (defBody s_balanced_size) (defScope s_balanced_size) [] [] (He.fAd K ("balanced_size", none)) fd
  F_balanced_digits : ∃ fd, FunD K "balanced_digits" "balanced_digits" (defArgs s_balanced_digits) (defBody s_balanced_digits) (defScope s_balanced_digits) [] [] (He.fAd K ("balanced_digits", none)) fd
  F__words : ∃ fd, FunD K "_words" "_words" (defArgs s__words) (defBody s__words) (defScope s__words) [] [] (He.fAd K ("_words", none)) fd
  F__greatest_bits : ∃ fd, FunD K "_greatest_bits" "_greatest_bits" (defArgs s__greatest_bits) (defBody s__greatest_bits) (defScope s__greatest_bits) [] [] (He.fAd K ("_greatest_bits", none)) fd
  F__product_width : ∃ fd, FunD K "_product_width" "_product_width" (defArgs s__product_width) (defBody s__product_width) (defScope s__product_width) [] [] (He.fAd K ("_product_width", none)) fd
  F__product_steps : ∃ fd, FunD K "_product_steps" "_product_steps" (defArgs s__product_steps) (defBody s__product_steps) (defScope s__product_steps) [] [] (He.fAd K ("_product_steps", none)) fd
  F__packing_pays : ∃ fd, FunD K "_packing_pays" "_packing_pays" (defArgs s__packing_pays) (defBody s__packing_pays) (defScope s__packing_pays) [] [] (He.fAd K ("_packing_pays", none)) fd
  F__product_by_pairs : ∃ fd, FunD K "_product_by_pairs" "_product_by_pairs" (defArgs s__product_by_pairs) (defBody s__product_by_pairs) (defScope s__product_by_pairs) [] [] (He.fAd K ("_product_by_pairs", none)) fd
  F_product : ∃ fd, FunD K "product" "product" (defArgs s_product) (defBody s_product) (defScope s_product) [] [] (He.fAd K ("product", none)) fd
  F__quotient_by_lanes : ∃ fd, FunD K "_quotient_by_lanes" "_quotient_by_lanes" (defArgs s__quotient_by_lanes) (defBody s__quotient_by_lanes) (defScope s__quotient_by_lanes) [] [] (He.fAd K ("_quotient_by_lanes", none)) fd
  F_quotient : ∃ fd, FunD K "quotient" "quotient" (defArgs s_quotient) (defBody s_quotient) (defScope s_quotient) [] [] (He.fAd K ("quotient", none)) fd
  F_quotient_and_rest : ∃ fd, FunD K "quotient_and_rest" "quotient_and_rest" (defArgs s_quotient_and_rest) (defBody s_quotient_and_rest) (defScope s_quotient_and_rest) [] [] (He.fAd K ("quotient_and_rest", none)) fd
  F_rest_row : ∃ fd, FunD K "rest_row" "rest_row" (defArgs s_rest_row) (defBody s_rest_row) (defScope s_rest_row) [] [] (He.fAd K ("rest_row", none)) fd
  F_divided : ∃ fd, FunD K "divided" "divided" (defArgs s_divided) (defBody s_divided) (defScope s_divided) [] [] (He.fAd K ("divided", none)) fd
  F_Row___init__ : ∃ fd, FunD K "__init__" "Row.__init__" (defArgs s_Row___init__) (defBody s_Row___init__) (defScope s_Row___init__) [V.ref (He.dflAt ("Row", some "__init__") 0 K)] [] (He.fAd K ("Row", some "__init__")) fd
  F_Row_at : ∃ fd, FunD K "at" "Row.at" (defArgs s_Row_at) (defBody s_Row_at) (defScope s_Row_at) [] [] (He.fAd K ("Row", some "at")) fd
  F_Pack___init__ : ∃ fd, FunD K "__init__" "Pack.__init__" (defArgs s_Pack___init__) (defBody s_Pack___init__) (defScope s_Pack___init__) [] [] (He.fAd K ("Pack", some "__init__")) fd
  F__divided_by_row : ∃ fd, FunD K "_divided_by_row" "_divided_by_row" (defArgs s__divided_by_row) (defBody s__divided_by_row) (defScope s__divided_by_row) [] [] (He.fAd K ("_divided_by_row", none)) fd
  F_Pack_over : ∃ fd, FunD K "over" "Pack.over" (defArgs s_Pack_over) (defBody s_Pack_over) (defScope s_Pack_over) [] [] (He.fAd K ("Pack", some "over")) fd
  F_Pack_rest : ∃ fd, FunD K "rest" "Pack.rest" (defArgs s_Pack_rest) (defBody s_Pack_rest) (defScope s_Pack_rest) [] [] (He.fAd K ("Pack", some "rest")) fd
  F_packed : ∃ fd, FunD K "packed" "packed" (defArgs s_packed) (defBody s_packed) (defScope s_packed) [] [] (He.fAd K ("packed", none)) fd
  F__check_monic : ∃ fd, FunD K "_check_monic" "_check_monic" (defArgs s__check_monic) (defBody s__check_monic) (defScope s__check_monic) [] [] (He.fAd K ("_check_monic", none)) fd
  F_Row___floordiv__ : ∃ fd, FunD K "__floordiv__" "Row.__floordiv__" (defArgs s_Row___floordiv__) (defBody s_Row___floordiv__) (defScope s_Row___floordiv__) [] [] (He.fAd K ("Row", some "__floordiv__")) fd
  F_Row___mod__ : ∃ fd, FunD K "__mod__" "Row.__mod__" (defArgs s_Row___mod__) (defBody s_Row___mod__) (defScope s_Row___mod__) [] [] (He.fAd K ("Row", some "__mod__")) fd
  F_Row_down : ∃ fd, FunD K "down" "Row.down" (defArgs s_Row_down) (defBody s_Row_down) (defScope s_Row_down) [] [] (He.fAd K ("Row", some "down")) fd
  F_Row_low : ∃ fd, FunD K "low" "Row.low" (defArgs s_Row_low) (defBody s_Row_low) (defScope s_Row_low) [] [] (He.fAd K ("Row", some "low")) fd
  F_Row___eq__ : ∃ fd, FunD K "__eq__" "Row.__eq__" (defArgs s_Row___eq__) (defBody s_Row___eq__) (defScope s_Row___eq__) [] [] (He.fAd K ("Row", some "__eq__")) fd
  F__law_start : ∃ fd, FunD K "_law_start" "_law_start" (defArgs s__law_start) (defBody s__law_start) (defScope s__law_start) [] [] (He.fAd K ("_law_start", none)) fd
  F__law_draw : ∃ fd, FunD K "_law_draw" "_law_draw" (defArgs s__law_draw) (defBody s__law_draw) (defScope s__law_draw) [] [] (He.fAd K ("_law_draw", none)) fd
  F__law_number : ∃ fd, FunD K "_law_number" "_law_number" (defArgs s__law_number) (defBody s__law_number) (defScope s__law_number) [] [] (He.fAd K ("_law_number", none)) fd
  F__law_list : ∃ fd, FunD K "_law_list" "_law_list" (defArgs s__law_list) (defBody s__law_list) (defScope s__law_list) [] [] (He.fAd K ("_law_list", none)) fd
  F_law : ∃ fd, FunD K "law" "law" (defArgs s_law) (defBody s_law) (defScope s_law) [] [] (He.fAd K ("law", none)) fd
  m_check_lanes : mg "check_lanes" = some (.ref (He.fAd K ("check_lanes", none)))
  m_check_width : mg "check_width" = some (.ref (He.fAd K ("check_width", none)))
  m_stripped : mg "stripped" = some (.ref (He.fAd K ("stripped", none)))
  m_added : mg "added" = some (.ref (He.fAd K ("added", none)))
  m_negated : mg "negated" = some (.ref (He.fAd K ("negated", none)))
  m_joined : mg "joined" = some (.ref (He.fAd K ("joined", none)))
  m_cut_in_two : mg "cut_in_two" = some (.ref (He.fAd K ("cut_in_two", none)))
  m_plain_digits : mg "plain_digits" = some (.ref (He.fAd K ("plain_digits", none)))
  m_balanced_size : mg "balanced_size" = some (.ref (He.fAd K ("balanced_size", none)))
  m_balanced_digits : mg "balanced_digits" = some (.ref (He.fAd K ("balanced_digits", none)))
  m__words : mg "_words" = some (.ref (He.fAd K ("_words", none)))
  m__greatest_bits : mg "_greatest_bits" = some (.ref (He.fAd K ("_greatest_bits", none)))
  m__product_width : mg "_product_width" = some (.ref (He.fAd K ("_product_width", none)))
  m__product_steps : mg "_product_steps" = some (.ref (He.fAd K ("_product_steps", none)))
  m__packing_pays : mg "_packing_pays" = some (.ref (He.fAd K ("_packing_pays", none)))
  m__product_by_pairs : mg "_product_by_pairs" = some (.ref (He.fAd K ("_product_by_pairs", none)))
  m_product : mg "product" = some (.ref (He.fAd K ("product", none)))
  m__quotient_by_lanes : mg "_quotient_by_lanes" = some (.ref (He.fAd K ("_quotient_by_lanes", none)))
  m_quotient : mg "quotient" = some (.ref (He.fAd K ("quotient", none)))
  m_quotient_and_rest : mg "quotient_and_rest" = some (.ref (He.fAd K ("quotient_and_rest", none)))
  m_rest_row : mg "rest_row" = some (.ref (He.fAd K ("rest_row", none)))
  m_divided : mg "divided" = some (.ref (He.fAd K ("divided", none)))
  h_Row_at : Meth K (He.ga K "Row") "at" (He.fAd K ("Row", some "at"))
  m__divided_by_row : mg "_divided_by_row" = some (.ref (He.fAd K ("_divided_by_row", none)))
  h_Pack_over : Meth K (He.ga K "Pack") "over" (He.fAd K ("Pack", some "over"))
  h_Pack_rest : Meth K (He.ga K "Pack") "rest" (He.fAd K ("Pack", some "rest"))
  m_packed : mg "packed" = some (.ref (He.fAd K ("packed", none)))
  m__check_monic : mg "_check_monic" = some (.ref (He.fAd K ("_check_monic", none)))
  h_Row___floordiv__ : Meth K (He.ga K "Row") "__floordiv__" (He.fAd K ("Row", some "__floordiv__"))
  h_Row___mod__ : Meth K (He.ga K "Row") "__mod__" (He.fAd K ("Row", some "__mod__"))
  h_Row_down : Meth K (He.ga K "Row") "down" (He.fAd K ("Row", some "down"))
  h_Row_low : Meth K (He.ga K "Row") "low" (He.fAd K ("Row", some "low"))
  h_Row___eq__ : Meth K (He.ga K "Row") "__eq__" (He.fAd K ("Row", some "__eq__"))
  m__law_start : mg "_law_start" = some (.ref (He.fAd K ("_law_start", none)))
  m__law_draw : mg "_law_draw" = some (.ref (He.fAd K ("_law_draw", none)))
  m__law_number : mg "_law_number" = some (.ref (He.fAd K ("_law_number", none)))
  m__law_list : mg "_law_list" = some (.ref (He.fAd K ("_law_list", none)))
  m_law : mg "law" = some (.ref (He.fAd K ("law", none)))
  m_Row : mg "Row" = some (.ref (He.ga K "Row"))
  cl_Row : Cls K (He.ga K "Row")
  M_Row : Mk K (He.ga K "Row") (He.fAd K ("Row", some "__init__"))
  m_Pack : mg "Pack" = some (.ref (He.ga K "Pack"))
  cl_Pack : Cls K (He.ga K "Pack")
  M_Pack : Mk K (He.ga K "Pack") (He.fAd K ("Pack", some "__init__"))
  n_Pack_number : NoAttr K (He.ga K "Pack") "number"
  n_Pack_width : NoAttr K (He.ga K "Pack") "width"
  n_Row_entries : NoAttr K (He.ga K "Row") "entries"
  z_divmod : mg "divmod" = none
  z_enumerate : mg "enumerate" = none
  z_int : mg "int" = none
  z_isinstance : mg "isinstance" = none
  z_len : mg "len" = none
  z_list : mg "list" = none
  z_max : mg "max" = none
  z_min : mg "min" = none
  z_range : mg "range" = none
  z_reversed : mg "reversed" = none
  z_sum : mg "sum" = none
  z_tuple : mg "tuple" = none
  z_zip : mg "zip" = none
  g__FEW_ENTRIES : ∃ t, mg "_FEW_ENTRIES" = some (.int 40 t)
  g__SHORT_BITS : ∃ t, mg "_SHORT_BITS" = some (.int 10000 t)
  g__SHORT_WORDS : ∃ t, mg "_SHORT_WORDS" = some (.int 70 t)
  dt_Row___init__ : tupB0 K (He.dflAt ("Row", some "__init__") 0 K) = true
  sf_Row : PySem.W.selfFirst K (He.ga K "Row") = true
  et_Row : (PySem.W.subIn K (.type "tuple") (.ref (He.ga K "Row")) == some false) = true
  ic_Row : insB K (He.ga K "Row") = true
  sf_Pack : PySem.W.selfFirst K (He.ga K "Pack") = true
section
variable {K : PySem.W.Frag} {mg : Str → Option Value}
noncomputable def Txt.d_check_lanes (T : Txt K mg) : FuncData := T.F_check_lanes.choose
theorem Txt.fn_check_lanes (T : Txt K mg) : FunD K "check_lanes" "check_lanes" (defArgs s_check_lanes) (defBody s_check_lanes) (defScope s_check_lanes) [] [] (He.fAd K ("check_lanes", none)) T.d_check_lanes := T.F_check_lanes.choose_spec
theorem Txt.b_check_lanes (T : Txt K mg) : Binds K T.d_check_lanes ["lanes"] [] := FunD.bindsN T.fn_check_lanes fun _ _ _ _ _ _ us hl => match us, hl with | [_], _ => rfl
noncomputable def Txt.d_check_width (T : Txt K mg) : FuncData := T.F_check_width.choose
theorem Txt.fn_check_width (T : Txt K mg) : FunD K "check_width" "check_width" (defArgs s_check_width) (defBody s_check_width) (defScope s_check_width) [] [] (He.fAd K ("check_width", none)) T.d_check_width := T.F_check_width.choose_spec
theorem Txt.b_check_width (T : Txt K mg) : Binds K T.d_check_width ["width"] [] := FunD.bindsN T.fn_check_width fun _ _ _ _ _ _ us hl => match us, hl with | [_], _ => rfl
noncomputable def Txt.d_stripped (T : Txt K mg) : FuncData := T.F_stripped.choose
theorem Txt.fn_stripped (T : Txt K mg) : FunD K "stripped" "stripped" (defArgs s_stripped) (defBody s_stripped) (defScope s_stripped) [] [] (He.fAd K ("stripped", none)) T.d_stripped := T.F_stripped.choose_spec
theorem Txt.b_stripped (T : Txt K mg) : Binds K T.d_stripped ["entries"] [] := FunD.bindsN T.fn_stripped fun _ _ _ _ _ _ us hl => match us, hl with | [_], _ => rfl
noncomputable def Txt.d_added (T : Txt K mg) : FuncData := T.F_added.choose
theorem Txt.fn_added (T : Txt K mg) : FunD K "added" "added" (defArgs s_added) (defBody s_added) (defScope s_added) [] [] (He.fAd K ("added", none)) T.d_added := T.F_added.choose_spec
theorem Txt.b_added (T : Txt K mg) : Binds K T.d_added ["one", "other"] [] := FunD.bindsN T.fn_added fun _ _ _ _ _ _ us hl => match us, hl with | [_, _], _ => rfl
noncomputable def Txt.d_negated (T : Txt K mg) : FuncData := T.F_negated.choose
theorem Txt.fn_negated (T : Txt K mg) : FunD K "negated" "negated" (defArgs s_negated) (defBody s_negated) (defScope s_negated) [] [] (He.fAd K ("negated", none)) T.d_negated := T.F_negated.choose_spec
theorem Txt.b_negated (T : Txt K mg) : Binds K T.d_negated ["entries"] [] := FunD.bindsN T.fn_negated fun _ _ _ _ _ _ us hl => match us, hl with | [_], _ => rfl
noncomputable def Txt.d_joined (T : Txt K mg) : FuncData := T.F_joined.choose
theorem Txt.fn_joined (T : Txt K mg) : FunD K "joined" "joined" (defArgs s_joined) (defBody s_joined) (defScope s_joined) [] [] (He.fAd K ("joined", none)) T.d_joined := T.F_joined.choose_spec
theorem Txt.b_joined (T : Txt K mg) : Binds K T.d_joined ["entries", "width"] [] := FunD.bindsN T.fn_joined fun _ _ _ _ _ _ us hl => match us, hl with | [_, _], _ => rfl
noncomputable def Txt.d_cut_in_two (T : Txt K mg) : FuncData := T.F_cut_in_two.choose
theorem Txt.fn_cut_in_two (T : Txt K mg) : FunD K "cut_in_two" "cut_in_two" (defArgs s_cut_in_two) (defBody s_cut_in_two) (defScope s_cut_in_two) [] [] (He.fAd K ("cut_in_two", none)) T.d_cut_in_two := T.F_cut_in_two.choose_spec
theorem Txt.b_cut_in_two (T : Txt K mg) : Binds K T.d_cut_in_two ["number", "bits"] [] := FunD.bindsN T.fn_cut_in_two fun _ _ _ _ _ _ us hl => match us, hl with | [_, _], _ => rfl
noncomputable def Txt.d_plain_digits (T : Txt K mg) : FuncData := T.F_plain_digits.choose
theorem Txt.fn_plain_digits (T : Txt K mg) : FunD K "plain_digits" "plain_digits" (defArgs s_plain_digits) (defBody s_plain_digits) (defScope s_plain_digits) [] [] (He.fAd K ("plain_digits", none)) T.d_plain_digits := T.F_plain_digits.choose_spec
theorem Txt.b_plain_digits (T : Txt K mg) : Binds K T.d_plain_digits ["number", "width", "count"] [] := FunD.bindsN T.fn_plain_digits fun _ _ _ _ _ _ us hl => match us, hl with | [_, _, _], _ => rfl
noncomputable def Txt.d_balanced_size (T : Txt K mg) : FuncData := T.F_balanced_size.choose
theorem Txt.fn_balanced_size (T : Txt K mg) : FunD K "balanced_size" "balanced_size" (defArgs s_balanced_size) (defBody s_balanced_size) (defScope s_balanced_size) [] [] (He.fAd K ("balanced_size", none)) T.d_balanced_size := T.F_balanced_size.choose_spec
theorem Txt.b_balanced_size (T : Txt K mg) : Binds K T.d_balanced_size ["number", "width"] [] := FunD.bindsN T.fn_balanced_size fun _ _ _ _ _ _ us hl => match us, hl with | [_, _], _ => rfl
noncomputable def Txt.d_balanced_digits (T : Txt K mg) : FuncData := T.F_balanced_digits.choose
theorem Txt.fn_balanced_digits (T : Txt K mg) : FunD K "balanced_digits" "balanced_digits" (defArgs s_balanced_digits) (defBody s_balanced_digits) (defScope s_balanced_digits) [] [] (He.fAd K ("balanced_digits", none)) T.d_balanced_digits := T.F_balanced_digits.choose_spec
theorem Txt.b_balanced_digits (T : Txt K mg) : Binds K T.d_balanced_digits ["number", "width", "count"] [] := FunD.bindsN T.fn_balanced_digits fun _ _ _ _ _ _ us hl => match us, hl with | [_, _, _], _ => rfl
noncomputable def Txt.d__words (T : Txt K mg) : FuncData := T.F__words.choose
theorem Txt.fn__words (T : Txt K mg) : FunD K "_words" "_words" (defArgs s__words) (defBody s__words) (defScope s__words) [] [] (He.fAd K ("_words", none)) T.d__words := T.F__words.choose_spec
theorem Txt.b__words (T : Txt K mg) : Binds K T.d__words ["number"] [] := FunD.bindsN T.fn__words fun _ _ _ _ _ _ us hl => match us, hl with | [_], _ => rfl
noncomputable def Txt.d__greatest_bits (T : Txt K mg) : FuncData := T.F__greatest_bits.choose
theorem Txt.fn__greatest_bits (T : Txt K mg) : FunD K "_greatest_bits" "_greatest_bits" (defArgs s__greatest_bits) (defBody s__greatest_bits) (defScope s__greatest_bits) [] [] (He.fAd K ("_greatest_bits", none)) T.d__greatest_bits := T.F__greatest_bits.choose_spec
theorem Txt.b__greatest_bits (T : Txt K mg) : Binds K T.d__greatest_bits ["entries"] [] := FunD.bindsN T.fn__greatest_bits fun _ _ _ _ _ _ us hl => match us, hl with | [_], _ => rfl
noncomputable def Txt.d__product_width (T : Txt K mg) : FuncData := T.F__product_width.choose
theorem Txt.fn__product_width (T : Txt K mg) : FunD K "_product_width" "_product_width" (defArgs s__product_width) (defBody s__product_width) (defScope s__product_width) [] [] (He.fAd K ("_product_width", none)) T.d__product_width := T.F__product_width.choose_spec
theorem Txt.b__product_width (T : Txt K mg) : Binds K T.d__product_width ["one", "other"] [] := FunD.bindsN T.fn__product_width fun _ _ _ _ _ _ us hl => match us, hl with | [_, _], _ => rfl
noncomputable def Txt.d__product_steps (T : Txt K mg) : FuncData := T.F__product_steps.choose
theorem Txt.fn__product_steps (T : Txt K mg) : FunD K "_product_steps" "_product_steps" (defArgs s__product_steps) (defBody s__product_steps) (defScope s__product_steps) [] [] (He.fAd K ("_product_steps", none)) T.d__product_steps := T.F__product_steps.choose_spec
theorem Txt.b__product_steps (T : Txt K mg) : Binds K T.d__product_steps ["one", "other"] [] := FunD.bindsN T.fn__product_steps fun _ _ _ _ _ _ us hl => match us, hl with | [_, _], _ => rfl
noncomputable def Txt.d__packing_pays (T : Txt K mg) : FuncData := T.F__packing_pays.choose
theorem Txt.fn__packing_pays (T : Txt K mg) : FunD K "_packing_pays" "_packing_pays" (defArgs s__packing_pays) (defBody s__packing_pays) (defScope s__packing_pays) [] [] (He.fAd K ("_packing_pays", none)) T.d__packing_pays := T.F__packing_pays.choose_spec
theorem Txt.b__packing_pays (T : Txt K mg) : Binds K T.d__packing_pays ["one", "other"] [] := FunD.bindsN T.fn__packing_pays fun _ _ _ _ _ _ us hl => match us, hl with | [_, _], _ => rfl
noncomputable def Txt.d__product_by_pairs (T : Txt K mg) : FuncData := T.F__product_by_pairs.choose
theorem Txt.fn__product_by_pairs (T : Txt K mg) : FunD K "_product_by_pairs" "_product_by_pairs" (defArgs s__product_by_pairs) (defBody s__product_by_pairs) (defScope s__product_by_pairs) [] [] (He.fAd K ("_product_by_pairs", none)) T.d__product_by_pairs := T.F__product_by_pairs.choose_spec
theorem Txt.b__product_by_pairs (T : Txt K mg) : Binds K T.d__product_by_pairs ["one", "other"] [] := FunD.bindsN T.fn__product_by_pairs fun _ _ _ _ _ _ us hl => match us, hl with | [_, _], _ => rfl
noncomputable def Txt.d_product (T : Txt K mg) : FuncData := T.F_product.choose
theorem Txt.fn_product (T : Txt K mg) : FunD K "product" "product" (defArgs s_product) (defBody s_product) (defScope s_product) [] [] (He.fAd K ("product", none)) T.d_product := T.F_product.choose_spec
theorem Txt.b_product (T : Txt K mg) : Binds K T.d_product ["one", "other"] [] := FunD.bindsN T.fn_product fun _ _ _ _ _ _ us hl => match us, hl with | [_, _], _ => rfl
noncomputable def Txt.d__quotient_by_lanes (T : Txt K mg) : FuncData := T.F__quotient_by_lanes.choose
theorem Txt.fn__quotient_by_lanes (T : Txt K mg) : FunD K "_quotient_by_lanes" "_quotient_by_lanes" (defArgs s__quotient_by_lanes) (defBody s__quotient_by_lanes) (defScope s__quotient_by_lanes) [] [] (He.fAd K ("_quotient_by_lanes", none)) T.d__quotient_by_lanes := T.F__quotient_by_lanes.choose_spec
theorem Txt.b__quotient_by_lanes (T : Txt K mg) : Binds K T.d__quotient_by_lanes ["entries", "divisor"] [] := FunD.bindsN T.fn__quotient_by_lanes fun _ _ _ _ _ _ us hl => match us, hl with | [_, _], _ => rfl
noncomputable def Txt.d_quotient (T : Txt K mg) : FuncData := T.F_quotient.choose
theorem Txt.fn_quotient (T : Txt K mg) : FunD K "quotient" "quotient" (defArgs s_quotient) (defBody s_quotient) (defScope s_quotient) [] [] (He.fAd K ("quotient", none)) T.d_quotient := T.F_quotient.choose_spec
theorem Txt.b_quotient (T : Txt K mg) : Binds K T.d_quotient ["entries", "divisor"] [] := FunD.bindsN T.fn_quotient fun _ _ _ _ _ _ us hl => match us, hl with | [_, _], _ => rfl
noncomputable def Txt.d_quotient_and_rest (T : Txt K mg) : FuncData := T.F_quotient_and_rest.choose
theorem Txt.fn_quotient_and_rest (T : Txt K mg) : FunD K "quotient_and_rest" "quotient_and_rest" (defArgs s_quotient_and_rest) (defBody s_quotient_and_rest) (defScope s_quotient_and_rest) [] [] (He.fAd K ("quotient_and_rest", none)) T.d_quotient_and_rest := T.F_quotient_and_rest.choose_spec
theorem Txt.b_quotient_and_rest (T : Txt K mg) : Binds K T.d_quotient_and_rest ["entries", "divisor"] [] := FunD.bindsN T.fn_quotient_and_rest fun _ _ _ _ _ _ us hl => match us, hl with | [_, _], _ => rfl
noncomputable def Txt.d_rest_row (T : Txt K mg) : FuncData := T.F_rest_row.choose
theorem Txt.fn_rest_row (T : Txt K mg) : FunD K "rest_row" "rest_row" (defArgs s_rest_row) (defBody s_rest_row) (defScope s_rest_row) [] [] (He.fAd K ("rest_row", none)) T.d_rest_row := T.F_rest_row.choose_spec
theorem Txt.b_rest_row (T : Txt K mg) : Binds K T.d_rest_row ["entries", "divisor"] [] := FunD.bindsN T.fn_rest_row fun _ _ _ _ _ _ us hl => match us, hl with | [_, _], _ => rfl
noncomputable def Txt.d_divided (T : Txt K mg) : FuncData := T.F_divided.choose
theorem Txt.fn_divided (T : Txt K mg) : FunD K "divided" "divided" (defArgs s_divided) (defBody s_divided) (defScope s_divided) [] [] (He.fAd K ("divided", none)) T.d_divided := T.F_divided.choose_spec
theorem Txt.b_divided (T : Txt K mg) : Binds K T.d_divided ["number", "divisor"] [] := FunD.bindsN T.fn_divided fun _ _ _ _ _ _ us hl => match us, hl with | [_, _], _ => rfl
noncomputable def Txt.d_Row___init__ (T : Txt K mg) : FuncData := T.F_Row___init__.choose
theorem Txt.fn_Row___init__ (T : Txt K mg) : FunD K "__init__" "Row.__init__" (defArgs s_Row___init__) (defBody s_Row___init__) (defScope s_Row___init__) [V.ref (He.dflAt ("Row", some "__init__") 0 K)] [] (He.fAd K ("Row", some "__init__")) T.d_Row___init__ := T.F_Row___init__.choose_spec
theorem Txt.b_Row___init__ (T : Txt K mg) : Binds K T.d_Row___init__ ["self", "entries"] [] := by
  obtain ⟨ds, v, b⟩ := FunD.binds1 (ps := ["self", "entries"]) T.fn_Row___init__ 2 1 (by simp) rfl fun _ _ _ _ _ _ _ us its h1 h2 => match us, its, h1, h2 with | [_, _], [_], _, _ => ⟨_, rfl, rfl⟩
  cases v
  exact b
theorem Txt.bd_Row___init__ (T : Txt K mg) : ∃ ds, Vals [V.ref (He.dflAt ("Row", some "__init__") 0 K)] ds ∧ Binds K T.d_Row___init__ ["self", "entries"] ds := FunD.binds1 (ps := ["self", "entries"]) T.fn_Row___init__ 1 0 (by simp) rfl fun _ _ _ _ _ _ _ us its h1 h2 => match us, its, h1, h2 with | [_], [_], _, _ => ⟨_, rfl, rfl⟩
noncomputable def Txt.d_Row_at (T : Txt K mg) : FuncData := T.F_Row_at.choose
theorem Txt.fn_Row_at (T : Txt K mg) : FunD K "at" "Row.at" (defArgs s_Row_at) (defBody s_Row_at) (defScope s_Row_at) [] [] (He.fAd K ("Row", some "at")) T.d_Row_at := T.F_Row_at.choose_spec
theorem Txt.b_Row_at (T : Txt K mg) : Binds K T.d_Row_at ["self", "width"] [] := FunD.bindsN T.fn_Row_at fun _ _ _ _ _ _ us hl => match us, hl with | [_, _], _ => rfl
noncomputable def Txt.d_Pack___init__ (T : Txt K mg) : FuncData := T.F_Pack___init__.choose
theorem Txt.fn_Pack___init__ (T : Txt K mg) : FunD K "__init__" "Pack.__init__" (defArgs s_Pack___init__) (defBody s_Pack___init__) (defScope s_Pack___init__) [] [] (He.fAd K ("Pack", some "__init__")) T.d_Pack___init__ := T.F_Pack___init__.choose_spec
theorem Txt.b_Pack___init__ (T : Txt K mg) : Binds K T.d_Pack___init__ ["self", "width", "number"] [] := FunD.bindsN T.fn_Pack___init__ fun _ _ _ _ _ _ us hl => match us, hl with | [_, _, _], _ => rfl
noncomputable def Txt.d__divided_by_row (T : Txt K mg) : FuncData := T.F__divided_by_row.choose
theorem Txt.fn__divided_by_row (T : Txt K mg) : FunD K "_divided_by_row" "_divided_by_row" (defArgs s__divided_by_row) (defBody s__divided_by_row) (defScope s__divided_by_row) [] [] (He.fAd K ("_divided_by_row", none)) T.d__divided_by_row := T.F__divided_by_row.choose_spec
theorem Txt.b__divided_by_row (T : Txt K mg) : Binds K T.d__divided_by_row ["pack", "row"] [] := FunD.bindsN T.fn__divided_by_row fun _ _ _ _ _ _ us hl => match us, hl with | [_, _], _ => rfl
noncomputable def Txt.d_Pack_over (T : Txt K mg) : FuncData := T.F_Pack_over.choose
theorem Txt.fn_Pack_over (T : Txt K mg) : FunD K "over" "Pack.over" (defArgs s_Pack_over) (defBody s_Pack_over) (defScope s_Pack_over) [] [] (He.fAd K ("Pack", some "over")) T.d_Pack_over := T.F_Pack_over.choose_spec
theorem Txt.b_Pack_over (T : Txt K mg) : Binds K T.d_Pack_over ["self", "row"] [] := FunD.bindsN T.fn_Pack_over fun _ _ _ _ _ _ us hl => match us, hl with | [_, _], _ => rfl
noncomputable def Txt.d_Pack_rest (T : Txt K mg) : FuncData := T.F_Pack_rest.choose
theorem Txt.fn_Pack_rest (T : Txt K mg) : FunD K "rest" "Pack.rest" (defArgs s_Pack_rest) (defBody s_Pack_rest) (defScope s_Pack_rest) [] [] (He.fAd K ("Pack", some "rest")) T.d_Pack_rest := T.F_Pack_rest.choose_spec
theorem Txt.b_Pack_rest (T : Txt K mg) : Binds K T.d_Pack_rest ["self", "row"] [] := FunD.bindsN T.fn_Pack_rest fun _ _ _ _ _ _ us hl => match us, hl with | [_, _], _ => rfl
noncomputable def Txt.d_packed (T : Txt K mg) : FuncData := T.F_packed.choose
theorem Txt.fn_packed (T : Txt K mg) : FunD K "packed" "packed" (defArgs s_packed) (defBody s_packed) (defScope s_packed) [] [] (He.fAd K ("packed", none)) T.d_packed := T.F_packed.choose_spec
theorem Txt.b_packed (T : Txt K mg) : Binds K T.d_packed ["row", "width"] [] := FunD.bindsN T.fn_packed fun _ _ _ _ _ _ us hl => match us, hl with | [_, _], _ => rfl
noncomputable def Txt.d__check_monic (T : Txt K mg) : FuncData := T.F__check_monic.choose
theorem Txt.fn__check_monic (T : Txt K mg) : FunD K "_check_monic" "_check_monic" (defArgs s__check_monic) (defBody s__check_monic) (defScope s__check_monic) [] [] (He.fAd K ("_check_monic", none)) T.d__check_monic := T.F__check_monic.choose_spec
theorem Txt.b__check_monic (T : Txt K mg) : Binds K T.d__check_monic ["row"] [] := FunD.bindsN T.fn__check_monic fun _ _ _ _ _ _ us hl => match us, hl with | [_], _ => rfl
noncomputable def Txt.d_Row___floordiv__ (T : Txt K mg) : FuncData := T.F_Row___floordiv__.choose
theorem Txt.fn_Row___floordiv__ (T : Txt K mg) : FunD K "__floordiv__" "Row.__floordiv__" (defArgs s_Row___floordiv__) (defBody s_Row___floordiv__) (defScope s_Row___floordiv__) [] [] (He.fAd K ("Row", some "__floordiv__")) T.d_Row___floordiv__ := T.F_Row___floordiv__.choose_spec
theorem Txt.b_Row___floordiv__ (T : Txt K mg) : Binds K T.d_Row___floordiv__ ["self", "other"] [] := FunD.bindsN T.fn_Row___floordiv__ fun _ _ _ _ _ _ us hl => match us, hl with | [_, _], _ => rfl
noncomputable def Txt.d_Row___mod__ (T : Txt K mg) : FuncData := T.F_Row___mod__.choose
theorem Txt.fn_Row___mod__ (T : Txt K mg) : FunD K "__mod__" "Row.__mod__" (defArgs s_Row___mod__) (defBody s_Row___mod__) (defScope s_Row___mod__) [] [] (He.fAd K ("Row", some "__mod__")) T.d_Row___mod__ := T.F_Row___mod__.choose_spec
theorem Txt.b_Row___mod__ (T : Txt K mg) : Binds K T.d_Row___mod__ ["self", "other"] [] := FunD.bindsN T.fn_Row___mod__ fun _ _ _ _ _ _ us hl => match us, hl with | [_, _], _ => rfl
noncomputable def Txt.d_Row_down (T : Txt K mg) : FuncData := T.F_Row_down.choose
theorem Txt.fn_Row_down (T : Txt K mg) : FunD K "down" "Row.down" (defArgs s_Row_down) (defBody s_Row_down) (defScope s_Row_down) [] [] (He.fAd K ("Row", some "down")) T.d_Row_down := T.F_Row_down.choose_spec
theorem Txt.b_Row_down (T : Txt K mg) : Binds K T.d_Row_down ["self", "lanes"] [] := FunD.bindsN T.fn_Row_down fun _ _ _ _ _ _ us hl => match us, hl with | [_, _], _ => rfl
noncomputable def Txt.d_Row_low (T : Txt K mg) : FuncData := T.F_Row_low.choose
theorem Txt.fn_Row_low (T : Txt K mg) : FunD K "low" "Row.low" (defArgs s_Row_low) (defBody s_Row_low) (defScope s_Row_low) [] [] (He.fAd K ("Row", some "low")) T.d_Row_low := T.F_Row_low.choose_spec
theorem Txt.b_Row_low (T : Txt K mg) : Binds K T.d_Row_low ["self", "lanes"] [] := FunD.bindsN T.fn_Row_low fun _ _ _ _ _ _ us hl => match us, hl with | [_, _], _ => rfl
noncomputable def Txt.d_Row___eq__ (T : Txt K mg) : FuncData := T.F_Row___eq__.choose
theorem Txt.fn_Row___eq__ (T : Txt K mg) : FunD K "__eq__" "Row.__eq__" (defArgs s_Row___eq__) (defBody s_Row___eq__) (defScope s_Row___eq__) [] [] (He.fAd K ("Row", some "__eq__")) T.d_Row___eq__ := T.F_Row___eq__.choose_spec
theorem Txt.b_Row___eq__ (T : Txt K mg) : Binds K T.d_Row___eq__ ["self", "other"] [] := FunD.bindsN T.fn_Row___eq__ fun _ _ _ _ _ _ us hl => match us, hl with | [_, _], _ => rfl
noncomputable def Txt.d__law_start (T : Txt K mg) : FuncData := T.F__law_start.choose
theorem Txt.fn__law_start (T : Txt K mg) : FunD K "_law_start" "_law_start" (defArgs s__law_start) (defBody s__law_start) (defScope s__law_start) [] [] (He.fAd K ("_law_start", none)) T.d__law_start := T.F__law_start.choose_spec
theorem Txt.b__law_start (T : Txt K mg) : Binds K T.d__law_start ["script"] [] := FunD.bindsN T.fn__law_start fun _ _ _ _ _ _ us hl => match us, hl with | [_], _ => rfl
noncomputable def Txt.d__law_draw (T : Txt K mg) : FuncData := T.F__law_draw.choose
theorem Txt.fn__law_draw (T : Txt K mg) : FunD K "_law_draw" "_law_draw" (defArgs s__law_draw) (defBody s__law_draw) (defScope s__law_draw) [] [] (He.fAd K ("_law_draw", none)) T.d__law_draw := T.F__law_draw.choose_spec
theorem Txt.b__law_draw (T : Txt K mg) : Binds K T.d__law_draw ["state", "many"] [] := FunD.bindsN T.fn__law_draw fun _ _ _ _ _ _ us hl => match us, hl with | [_, _], _ => rfl
noncomputable def Txt.d__law_number (T : Txt K mg) : FuncData := T.F__law_number.choose
theorem Txt.fn__law_number (T : Txt K mg) : FunD K "_law_number" "_law_number" (defArgs s__law_number) (defBody s__law_number) (defScope s__law_number) [] [] (He.fAd K ("_law_number", none)) T.d__law_number := T.F__law_number.choose_spec
theorem Txt.b__law_number (T : Txt K mg) : Binds K T.d__law_number ["pen"] [] := FunD.bindsN T.fn__law_number fun _ _ _ _ _ _ us hl => match us, hl with | [_], _ => rfl
noncomputable def Txt.d__law_list (T : Txt K mg) : FuncData := T.F__law_list.choose
theorem Txt.fn__law_list (T : Txt K mg) : FunD K "_law_list" "_law_list" (defArgs s__law_list) (defBody s__law_list) (defScope s__law_list) [] [] (He.fAd K ("_law_list", none)) T.d__law_list := T.F__law_list.choose_spec
theorem Txt.b__law_list (T : Txt K mg) : Binds K T.d__law_list ["pen", "most"] [] := FunD.bindsN T.fn__law_list fun _ _ _ _ _ _ us hl => match us, hl with | [_, _], _ => rfl
noncomputable def Txt.d_law (T : Txt K mg) : FuncData := T.F_law.choose
theorem Txt.fn_law (T : Txt K mg) : FunD K "law" "law" (defArgs s_law) (defBody s_law) (defScope s_law) [] [] (He.fAd K ("law", none)) T.d_law := T.F_law.choose_spec
theorem Txt.b_law (T : Txt K mg) : Binds K T.d_law ["script"] [] := FunD.bindsN T.fn_law fun _ _ _ _ _ _ us hl => match us, hl with | [_], _ => rfl
theorem Txt.ba_law (T : Txt K mg) (s : Shared) (u : Value) : BindsTo s T.d_law ⟨[u], []⟩ [("script", u)] := FunD.bindsA (ps := ["script"]) T.fn_law (fun _ _ _ _ _ _ us hl => match us, hl with | [_], _ => rfl) s [u] rfl
end
def dd_check_lanes : He5.DefA := ⟨fun K => (He.fAd K ("check_lanes", none)), "check_lanes", "check_lanes", defArgs s_check_lanes, defBody s_check_lanes, defScope s_check_lanes, [], []⟩
def dd_check_width : He5.DefA := ⟨fun K => (He.fAd K ("check_width", none)), "check_width", "check_width", defArgs s_check_width, defBody s_check_width, defScope s_check_width, [], []⟩
def dd_stripped : He5.DefA := ⟨fun K => (He.fAd K ("stripped", none)), "stripped", "stripped", defArgs s_stripped, defBody s_stripped, defScope s_stripped, [], []⟩
def dd_added : He5.DefA := ⟨fun K => (He.fAd K ("added", none)), "added", "added", defArgs s_added, defBody s_added, defScope s_added, [], []⟩
def dd_negated : He5.DefA := ⟨fun K => (He.fAd K ("negated", none)), "negated", "negated", defArgs s_negated, defBody s_negated, defScope s_negated, [], []⟩
def dd_joined : He5.DefA := ⟨fun K => (He.fAd K ("joined", none)), "joined", "joined", defArgs s_joined, defBody s_joined, defScope s_joined, [], []⟩
def dd_cut_in_two : He5.DefA := ⟨fun K => (He.fAd K ("cut_in_two", none)), "cut_in_two", "cut_in_two", defArgs s_cut_in_two, defBody s_cut_in_two, defScope s_cut_in_two, [], []⟩
def dd_plain_digits : He5.DefA := ⟨fun K => (He.fAd K ("plain_digits", none)), "plain_digits", "plain_digits", defArgs s_plain_digits, defBody s_plain_digits, defScope s_plain_digits, [], []⟩
def dd_balanced_size : He5.DefA := ⟨fun K => (He.fAd K ("balanced_size", none)), "balanced_size", "balanced_size", defArgs s_balanced_size, defBody s_balanced_size, defScope s_balanced_size, [], []⟩
def dd_balanced_digits : He5.DefA := ⟨fun K => (He.fAd K ("balanced_digits", none)), "balanced_digits", "balanced_digits", defArgs s_balanced_digits, defBody s_balanced_digits, defScope s_balanced_digits, [], []⟩
def dd__words : He5.DefA := ⟨fun K => (He.fAd K ("_words", none)), "_words", "_words", defArgs s__words, defBody s__words, defScope s__words, [], []⟩
def dd__greatest_bits : He5.DefA := ⟨fun K => (He.fAd K ("_greatest_bits", none)), "_greatest_bits", "_greatest_bits", defArgs s__greatest_bits, defBody s__greatest_bits, defScope s__greatest_bits, [], []⟩
def dd__product_width : He5.DefA := ⟨fun K => (He.fAd K ("_product_width", none)), "_product_width", "_product_width", defArgs s__product_width, defBody s__product_width, defScope s__product_width, [], []⟩
def dd__product_steps : He5.DefA := ⟨fun K => (He.fAd K ("_product_steps", none)), "_product_steps", "_product_steps", defArgs s__product_steps, defBody s__product_steps, defScope s__product_steps, [], []⟩
def dd__packing_pays : He5.DefA := ⟨fun K => (He.fAd K ("_packing_pays", none)), "_packing_pays", "_packing_pays", defArgs s__packing_pays, defBody s__packing_pays, defScope s__packing_pays, [], []⟩
def dd__product_by_pairs : He5.DefA := ⟨fun K => (He.fAd K ("_product_by_pairs", none)), "_product_by_pairs", "_product_by_pairs", defArgs s__product_by_pairs, defBody s__product_by_pairs, defScope s__product_by_pairs, [], []⟩
def dd_product : He5.DefA := ⟨fun K => (He.fAd K ("product", none)), "product", "product", defArgs s_product, defBody s_product, defScope s_product, [], []⟩
def dd__quotient_by_lanes : He5.DefA := ⟨fun K => (He.fAd K ("_quotient_by_lanes", none)), "_quotient_by_lanes", "_quotient_by_lanes", defArgs s__quotient_by_lanes, defBody s__quotient_by_lanes, defScope s__quotient_by_lanes, [], []⟩
def dd_quotient : He5.DefA := ⟨fun K => (He.fAd K ("quotient", none)), "quotient", "quotient", defArgs s_quotient, defBody s_quotient, defScope s_quotient, [], []⟩
def dd_quotient_and_rest : He5.DefA := ⟨fun K => (He.fAd K ("quotient_and_rest", none)), "quotient_and_rest", "quotient_and_rest", defArgs s_quotient_and_rest, defBody s_quotient_and_rest, defScope s_quotient_and_rest, [], []⟩
def dd_rest_row : He5.DefA := ⟨fun K => (He.fAd K ("rest_row", none)), "rest_row", "rest_row", defArgs s_rest_row, defBody s_rest_row, defScope s_rest_row, [], []⟩
def dd_divided : He5.DefA := ⟨fun K => (He.fAd K ("divided", none)), "divided", "divided", defArgs s_divided, defBody s_divided, defScope s_divided, [], []⟩
def dd_Row___init__ : He5.DefA := ⟨fun K => (He.fAd K ("Row", some "__init__")), "__init__", "Row.__init__", defArgs s_Row___init__, defBody s_Row___init__, defScope s_Row___init__, [.adr (He.dflAt ("Row", some "__init__") 0)], []⟩
def dd_Row_at : He5.DefA := ⟨fun K => (He.fAd K ("Row", some "at")), "at", "Row.at", defArgs s_Row_at, defBody s_Row_at, defScope s_Row_at, [], []⟩
def dd_Pack___init__ : He5.DefA := ⟨fun K => (He.fAd K ("Pack", some "__init__")), "__init__", "Pack.__init__", defArgs s_Pack___init__, defBody s_Pack___init__, defScope s_Pack___init__, [], []⟩
def dd__divided_by_row : He5.DefA := ⟨fun K => (He.fAd K ("_divided_by_row", none)), "_divided_by_row", "_divided_by_row", defArgs s__divided_by_row, defBody s__divided_by_row, defScope s__divided_by_row, [], []⟩
def dd_Pack_over : He5.DefA := ⟨fun K => (He.fAd K ("Pack", some "over")), "over", "Pack.over", defArgs s_Pack_over, defBody s_Pack_over, defScope s_Pack_over, [], []⟩
def dd_Pack_rest : He5.DefA := ⟨fun K => (He.fAd K ("Pack", some "rest")), "rest", "Pack.rest", defArgs s_Pack_rest, defBody s_Pack_rest, defScope s_Pack_rest, [], []⟩
def dd_packed : He5.DefA := ⟨fun K => (He.fAd K ("packed", none)), "packed", "packed", defArgs s_packed, defBody s_packed, defScope s_packed, [], []⟩
def dd__check_monic : He5.DefA := ⟨fun K => (He.fAd K ("_check_monic", none)), "_check_monic", "_check_monic", defArgs s__check_monic, defBody s__check_monic, defScope s__check_monic, [], []⟩
def dd_Row___floordiv__ : He5.DefA := ⟨fun K => (He.fAd K ("Row", some "__floordiv__")), "__floordiv__", "Row.__floordiv__", defArgs s_Row___floordiv__, defBody s_Row___floordiv__, defScope s_Row___floordiv__, [], []⟩
def dd_Row___mod__ : He5.DefA := ⟨fun K => (He.fAd K ("Row", some "__mod__")), "__mod__", "Row.__mod__", defArgs s_Row___mod__, defBody s_Row___mod__, defScope s_Row___mod__, [], []⟩
def dd_Row_down : He5.DefA := ⟨fun K => (He.fAd K ("Row", some "down")), "down", "Row.down", defArgs s_Row_down, defBody s_Row_down, defScope s_Row_down, [], []⟩
def dd_Row_low : He5.DefA := ⟨fun K => (He.fAd K ("Row", some "low")), "low", "Row.low", defArgs s_Row_low, defBody s_Row_low, defScope s_Row_low, [], []⟩
def dd_Row___eq__ : He5.DefA := ⟨fun K => (He.fAd K ("Row", some "__eq__")), "__eq__", "Row.__eq__", defArgs s_Row___eq__, defBody s_Row___eq__, defScope s_Row___eq__, [], []⟩
def dd__law_start : He5.DefA := ⟨fun K => (He.fAd K ("_law_start", none)), "_law_start", "_law_start", defArgs s__law_start, defBody s__law_start, defScope s__law_start, [], []⟩
def dd__law_draw : He5.DefA := ⟨fun K => (He.fAd K ("_law_draw", none)), "_law_draw", "_law_draw", defArgs s__law_draw, defBody s__law_draw, defScope s__law_draw, [], []⟩
def dd__law_number : He5.DefA := ⟨fun K => (He.fAd K ("_law_number", none)), "_law_number", "_law_number", defArgs s__law_number, defBody s__law_number, defScope s__law_number, [], []⟩
def dd__law_list : He5.DefA := ⟨fun K => (He.fAd K ("_law_list", none)), "_law_list", "_law_list", defArgs s__law_list, defBody s__law_list, defScope s__law_list, [], []⟩
def dd_law : He5.DefA := ⟨fun K => (He.fAd K ("law", none)), "law", "law", defArgs s_law, defBody s_law, defScope s_law, [], []⟩
def fnD : List He5.DefA := [dd_check_lanes, dd_check_width, dd_stripped, dd_added, dd_negated, dd_joined, dd_cut_in_two, dd_plain_digits, dd_balanced_size, dd_balanced_digits, dd__words, dd__greatest_bits, dd__product_width, dd__product_steps, dd__packing_pays, dd__product_by_pairs, dd_product, dd__quotient_by_lanes, dd_quotient, dd_quotient_and_rest, dd_rest_row, dd_divided, dd_Row___init__, dd_Row_at, dd_Pack___init__, dd__divided_by_row, dd_Pack_over, dd_Pack_rest, dd_packed, dd__check_monic, dd_Row___floordiv__, dd_Row___mod__, dd_Row_down, dd_Row_low, dd_Row___eq__, dd__law_start, dd__law_draw, dd__law_number, dd__law_list, dd_law]
def fa : List He.Fa := [.glo "check_lanes", .glo "check_width", .glo "stripped", .glo "added", .glo "negated", .glo "joined", .glo "cut_in_two", .glo "plain_digits", .glo "balanced_size", .glo "balanced_digits", .glo "_words", .glo "_greatest_bits", .glo "_product_width", .glo "_product_steps", .glo "_packing_pays", .glo "_product_by_pairs", .glo "product", .glo "_quotient_by_lanes", .glo "quotient", .glo "quotient_and_rest", .glo "rest_row", .glo "divided", .meth "Row" "at", .glo "_divided_by_row", .meth "Pack" "over", .meth "Pack" "rest", .glo "packed", .glo "_check_monic", .meth "Row" "__floordiv__", .meth "Row" "__mod__", .meth "Row" "down", .meth "Row" "low", .meth "Row" "__eq__", .glo "_law_start", .glo "_law_draw", .glo "_law_number", .glo "_law_list", .glo "law", .glo "Row", .cls "Row", .mkr "Row", .glo "Pack", .cls "Pack", .mkr "Pack", .noat "Pack" "number", .noat "Pack" "width", .noat "Row" "entries", .free "divmod", .free "enumerate", .free "int", .free "isinstance", .free "len", .free "list", .free "max", .free "min", .free "range", .free "reversed", .free "sum", .free "tuple", .free "zip", .int "_FEW_ENTRIES" 40, .int "_SHORT_BITS" 10000, .int "_SHORT_WORDS" 70]
def ex (K : PySem.W.Frag) : Bool := tupB0 K (He.dflAt ("Row", some "__init__") 0 K) && (PySem.W.selfFirst K (He.ga K "Row") && ((PySem.W.subIn K (.type "tuple") (.ref (He.ga K "Row")) == some false) && (insB K (He.ga K "Row") && (PySem.W.selfFirst K (He.ga K "Pack")))))
theorem txt_of {K : PySem.W.Frag} {h : Heap} {mg : Str → Option Value} (X : K.In h) (G : h.Ns mainGlobals mg) (c : SaysB fa fnD ex K) : Txt K mg := by
  have D := c.a
  have x_dt_Row___init__ := (He.ba c.more).1
  have more0 := (He.ba c.more).2
  have x_sf_Row := (He.ba more0).1
  have more1 := (He.ba more0).2
  have x_et_Row := (He.ba more1).1
  have more2 := (He.ba more1).2
  have x_ic_Row := (He.ba more2).1
  have more3 := (He.ba more2).2
  have x_sf_Pack := more3
  exact {
    F_check_lanes := D.def_ 0 (d := dd_check_lanes) rfl,
    F_check_width := D.def_ 1 (d := dd_check_width) rfl,
    F_stripped := D.def_ 2 (d := dd_stripped) rfl,
    F_added := D.def_ 3 (d := dd_added) rfl,
    F_negated := D.def_ 4 (d := dd_negated) rfl,
    F_joined := D.def_ 5 (d := dd_joined) rfl,
    F_cut_in_two := D.def_ 6 (d := dd_cut_in_two) rfl,
    F_plain_digits := D.def_ 7 (d := dd_plain_digits) rfl,
    F_balanced_size := D.def_ 8 (d := dd_balanced_size) rfl,
    F_balanced_digits := D.def_ 9 (d := dd_balanced_digits) rfl,
    F__words := D.def_ 10 (d := dd__words) rfl,
    F__greatest_bits := D.def_ 11 (d := dd__greatest_bits) rfl,
    F__product_width := D.def_ 12 (d := dd__product_width) rfl,
    F__product_steps := D.def_ 13 (d := dd__product_steps) rfl,
    F__packing_pays := D.def_ 14 (d := dd__packing_pays) rfl,
    F__product_by_pairs := D.def_ 15 (d := dd__product_by_pairs) rfl,
    F_product := D.def_ 16 (d := dd_product) rfl,
    F__quotient_by_lanes := D.def_ 17 (d := dd__quotient_by_lanes) rfl,
    F_quotient := D.def_ 18 (d := dd_quotient) rfl,
    F_quotient_and_rest := D.def_ 19 (d := dd_quotient_and_rest) rfl,
    F_rest_row := D.def_ 20 (d := dd_rest_row) rfl,
    F_divided := D.def_ 21 (d := dd_divided) rfl,
    F_Row___init__ := D.def_ 22 (d := dd_Row___init__) rfl,
    F_Row_at := D.def_ 23 (d := dd_Row_at) rfl,
    F_Pack___init__ := D.def_ 24 (d := dd_Pack___init__) rfl,
    F__divided_by_row := D.def_ 25 (d := dd__divided_by_row) rfl,
    F_Pack_over := D.def_ 26 (d := dd_Pack_over) rfl,
    F_Pack_rest := D.def_ 27 (d := dd_Pack_rest) rfl,
    F_packed := D.def_ 28 (d := dd_packed) rfl,
    F__check_monic := D.def_ 29 (d := dd__check_monic) rfl,
    F_Row___floordiv__ := D.def_ 30 (d := dd_Row___floordiv__) rfl,
    F_Row___mod__ := D.def_ 31 (d := dd_Row___mod__) rfl,
    F_Row_down := D.def_ 32 (d := dd_Row_down) rfl,
    F_Row_low := D.def_ 33 (d := dd_Row_low) rfl,
    F_Row___eq__ := D.def_ 34 (d := dd_Row___eq__) rfl,
    F__law_start := D.def_ 35 (d := dd__law_start) rfl,
    F__law_draw := D.def_ 36 (d := dd__law_draw) rfl,
    F__law_number := D.def_ 37 (d := dd__law_number) rfl,
    F__law_list := D.def_ 38 (d := dd__law_list) rfl,
    F_law := D.def_ 39 (d := dd_law) rfl,
    m_check_lanes := He.glo_ok X G (D.fact 0 (f := .glo "check_lanes") rfl),
    m_check_width := He.glo_ok X G (D.fact 1 (f := .glo "check_width") rfl),
    m_stripped := He.glo_ok X G (D.fact 2 (f := .glo "stripped") rfl),
    m_added := He.glo_ok X G (D.fact 3 (f := .glo "added") rfl),
    m_negated := He.glo_ok X G (D.fact 4 (f := .glo "negated") rfl),
    m_joined := He.glo_ok X G (D.fact 5 (f := .glo "joined") rfl),
    m_cut_in_two := He.glo_ok X G (D.fact 6 (f := .glo "cut_in_two") rfl),
    m_plain_digits := He.glo_ok X G (D.fact 7 (f := .glo "plain_digits") rfl),
    m_balanced_size := He.glo_ok X G (D.fact 8 (f := .glo "balanced_size") rfl),
    m_balanced_digits := He.glo_ok X G (D.fact 9 (f := .glo "balanced_digits") rfl),
    m__words := He.glo_ok X G (D.fact 10 (f := .glo "_words") rfl),
    m__greatest_bits := He.glo_ok X G (D.fact 11 (f := .glo "_greatest_bits") rfl),
    m__product_width := He.glo_ok X G (D.fact 12 (f := .glo "_product_width") rfl),
    m__product_steps := He.glo_ok X G (D.fact 13 (f := .glo "_product_steps") rfl),
    m__packing_pays := He.glo_ok X G (D.fact 14 (f := .glo "_packing_pays") rfl),
    m__product_by_pairs := He.glo_ok X G (D.fact 15 (f := .glo "_product_by_pairs") rfl),
    m_product := He.glo_ok X G (D.fact 16 (f := .glo "product") rfl),
    m__quotient_by_lanes := He.glo_ok X G (D.fact 17 (f := .glo "_quotient_by_lanes") rfl),
    m_quotient := He.glo_ok X G (D.fact 18 (f := .glo "quotient") rfl),
    m_quotient_and_rest := He.glo_ok X G (D.fact 19 (f := .glo "quotient_and_rest") rfl),
    m_rest_row := He.glo_ok X G (D.fact 20 (f := .glo "rest_row") rfl),
    m_divided := He.glo_ok X G (D.fact 21 (f := .glo "divided") rfl),
    h_Row_at := He.meth_ok (D.fact 22 (f := .meth "Row" "at") rfl),
    m__divided_by_row := He.glo_ok X G (D.fact 23 (f := .glo "_divided_by_row") rfl),
    h_Pack_over := He.meth_ok (D.fact 24 (f := .meth "Pack" "over") rfl),
    h_Pack_rest := He.meth_ok (D.fact 25 (f := .meth "Pack" "rest") rfl),
    m_packed := He.glo_ok X G (D.fact 26 (f := .glo "packed") rfl),
    m__check_monic := He.glo_ok X G (D.fact 27 (f := .glo "_check_monic") rfl),
    h_Row___floordiv__ := He.meth_ok (D.fact 28 (f := .meth "Row" "__floordiv__") rfl),
    h_Row___mod__ := He.meth_ok (D.fact 29 (f := .meth "Row" "__mod__") rfl),
    h_Row_down := He.meth_ok (D.fact 30 (f := .meth "Row" "down") rfl),
    h_Row_low := He.meth_ok (D.fact 31 (f := .meth "Row" "low") rfl),
    h_Row___eq__ := He.meth_ok (D.fact 32 (f := .meth "Row" "__eq__") rfl),
    m__law_start := He.glo_ok X G (D.fact 33 (f := .glo "_law_start") rfl),
    m__law_draw := He.glo_ok X G (D.fact 34 (f := .glo "_law_draw") rfl),
    m__law_number := He.glo_ok X G (D.fact 35 (f := .glo "_law_number") rfl),
    m__law_list := He.glo_ok X G (D.fact 36 (f := .glo "_law_list") rfl),
    m_law := He.glo_ok X G (D.fact 37 (f := .glo "law") rfl),
    m_Row := He.glo_ok X G (D.fact 38 (f := .glo "Row") rfl),
    cl_Row := He.cls_ok (D.fact 39 (f := .cls "Row") rfl),
    M_Row := He.mkr_ok (D.fact 40 (f := .mkr "Row") rfl),
    m_Pack := He.glo_ok X G (D.fact 41 (f := .glo "Pack") rfl),
    cl_Pack := He.cls_ok (D.fact 42 (f := .cls "Pack") rfl),
    M_Pack := He.mkr_ok (D.fact 43 (f := .mkr "Pack") rfl),
    n_Pack_number := He.noat_ok (D.fact 44 (f := .noat "Pack" "number") rfl),
    n_Pack_width := He.noat_ok (D.fact 45 (f := .noat "Pack" "width") rfl),
    n_Row_entries := He.noat_ok (D.fact 46 (f := .noat "Row" "entries") rfl),
    z_divmod := He.free_ok X G (D.fact 47 (f := .free "divmod") rfl),
    z_enumerate := He.free_ok X G (D.fact 48 (f := .free "enumerate") rfl),
    z_int := He.free_ok X G (D.fact 49 (f := .free "int") rfl),
    z_isinstance := He.free_ok X G (D.fact 50 (f := .free "isinstance") rfl),
    z_len := He.free_ok X G (D.fact 51 (f := .free "len") rfl),
    z_list := He.free_ok X G (D.fact 52 (f := .free "list") rfl),
    z_max := He.free_ok X G (D.fact 53 (f := .free "max") rfl),
    z_min := He.free_ok X G (D.fact 54 (f := .free "min") rfl),
    z_range := He.free_ok X G (D.fact 55 (f := .free "range") rfl),
    z_reversed := He.free_ok X G (D.fact 56 (f := .free "reversed") rfl),
    z_sum := He.free_ok X G (D.fact 57 (f := .free "sum") rfl),
    z_tuple := He.free_ok X G (D.fact 58 (f := .free "tuple") rfl),
    z_zip := He.free_ok X G (D.fact 59 (f := .free "zip") rfl),
    g__FEW_ENTRIES := He.int_ok X G (D.fact 60 (f := .int "_FEW_ENTRIES" 40) rfl),
    g__SHORT_BITS := He.int_ok X G (D.fact 61 (f := .int "_SHORT_BITS" 10000) rfl),
    g__SHORT_WORDS := He.int_ok X G (D.fact 62 (f := .int "_SHORT_WORDS" 70) rfl),
    dt_Row___init__ := x_dt_Row___init__,
    sf_Row := x_sf_Row,
    et_Row := x_et_Row,
    ic_Row := x_ic_Row,
    sf_Pack := x_sf_Pack }
end Pl

set_option Elab.async false
set_option linter.all false
set_option maxRecDepth 100000
set_option maxHeartbeats 4000000
namespace Pl
open PySem PySem.Spec PyProof.Rows L2 RZ
section
variable {P : Program} {w : World} {K : PySem.W.Frag} {mg : Str → Option Value} {base : Heap}
def spNat (lo : Int) : Sp := fun vs H Q _ => ∃ n : Int, vs = [.int n] ∧ lo ≤ n ∧ Q .non H
theorem ok_check_lanes (T : Txt K mg) : FnOk P w K mg base CX0 1 (He.fAd K ("check_lanes", none)) T.d_check_lanes ["lanes"] (spNat 0) := by
  refine FunD.ok T.fn_check_lanes sc_check_lanes (fun vs H Q E h => ?_) (fun cdv A outer s H vs Q E hr h => ?_)
  · obtain ⟨n, rfl, _⟩ := h
    rfl
  · obtain ⟨n, rfl, h0, q⟩ := h
    refine ⟨_, PSs.nox (pss_one (ps_if (pt_cmpR op_lt (pv 0) pe_int (nomark _))
  (pss_one ps_never)
  pss_nil)), ?_⟩
    exact ⟨_, rfl, _, _, rfl, rfl, _, rfl, iteB (fun e => absurd e (by omega)) fun _ => q⟩
theorem ok_check_width (T : Txt K mg) : FnOk P w K mg base CX0 1 (He.fAd K ("check_width", none)) T.d_check_width ["width"] (spNat 1) := by
  refine FunD.ok T.fn_check_width sc_check_width (fun vs H Q E h => ?_) (fun cdv A outer s H vs Q E hr h => ?_)
  · obtain ⟨n, rfl, _⟩ := h
    rfl
  · obtain ⟨n, rfl, h0, q⟩ := h
    refine ⟨_, PSs.nox (pss_one (ps_if (pt_cmpR op_lt (pv 0) pe_int (nomark _))
  (pss_one ps_never)
  pss_nil)), ?_⟩
    exact ⟨_, rfl, _, _, rfl, rfl, _, rfl, iteB (fun e => absurd e (by omega)) fun _ => q⟩
def spStripped (K : PySem.W.Frag) : Sp := fun vs H Q _ => ∃ (a : Addr) (xs : List Int), vs = [.ref a] ∧ Sq K H a (xs.map V.int) ∧ xs.length ≤ 1000000 ∧ ∀ H' p, Same H H' → SqT K H' p ((stp xs).map V.int) → Q (.ref p) H'
theorem ok_stripped (T : Txt K mg) : FnOk P w K mg base CX0 1 (He.fAd K ("stripped", none)) T.d_stripped ["entries"] (spStripped K) := by
  refine FunD.ok T.fn_stripped sc_stripped (fun vs H Q E h => ?_) (fun cdv A outer s H vs Q E hr h => ?_)
  · obtain ⟨a, xs, rfl, _⟩ := h
    rfl
  · obtain ⟨a, xs, rfl, hS, hl, q⟩ := h
    refine ⟨_, PSs.nox (pss_cons (ps_set (i := 1) sc_stripped.nd rfl (Or.inl rfl) (pe_callTy (call_tupleK (K := K)) (by rfl) T.z_tuple (by decide +kernel) (pa_cons (pv 0) pa_nil)))
  (pss_cons (ps_set (i := 2) sc_stripped.nd rfl (Or.inl rfl) (pe_callB (call_lenK (K := K)) (by rfl) T.z_len PySem.boot_len (pa_cons (pv 1) pa_nil)))
  (pss_cons (ps_while PassesOwn.never (PW.pt (pw_and (pt_cmpR op_gt (pv 2) pe_int (nomark _)) (pw_and1 (pt_cmpR op_eq (pe_ix (ix_tupK (K := K)) (pv 1) (pe_op op_sub (pv 2) pe_int) (fun _ _ => rfl)) pe_int (nomark _)))))
  (pss_one (ps_set (i := 2) sc_stripped.nd rfl (Or.inl rfl) (pe_op op_sub (pv 2) pe_int))))
  (pss_one (ps_ret (pe_slice (sl_tupK (K := K)) (pv 1) po_none (po_some (pv 2)))))))), ?_⟩
    refine ⟨_, rfl, _, _, rfl, hS, fun H1 t s1 hT => ?_⟩
    refine ⟨_, rfl, _, _, rfl, .inr hT, ?_⟩
    refine ⟨fun m σ H' => ∃ k : Nat, σ = [some (.ref a), some (.ref t), some (.int (k : Int))] ∧ H' = H1 ∧ m = k ∧ stpN xs k = stpN xs xs.length ∧ k ≤ xs.length, ⟨xs.length, xs.length, by rw [List.length_map] <;> rfl, rfl, rfl, rfl, Nat.le_refl _⟩, ?_⟩
    rintro m σ H' ⟨k, rfl, rfl, rfl, e, hk⟩
    have fin : stpN xs m = m → tRet (tSl (rSlT2 K) (tVar 1) tNoPart (tPart (tVar 2))) { nx := fun _ H' => Q .non H', rt := Q } [some (.ref a), some (.ref t), some (.int (m : Int))] H' := fun e0 => by
      refine ⟨_, rfl, _, rfl, _, rfl, _, _, rfl, hT, fun H2 p s2 hP => q H2 p (s1.trans s2) ?_⟩
      rw [cut_to, ← List.map_take, ← e0, e] at hP
      exact hP
    refine ⟨_, rfl, _, _, rfl, rfl, _, rfl, ?_⟩
    cases m with
    | zero => exact iteB (fun h => absurd h (by decide)) fun _ => iteF (fin rfl)
    | succ n =>
      refine iteB (fun _ => ?_) fun h => absurd (show (0 : Int) < ((n + 1 : Nat) : Int) by omega) h
      refine ⟨_, rfl, _, rfl, _, _, rfl, rfl, _, _, _, _, rfl, rfl, hT, at_ints (n := n) (by omega) (by omega), rfl, _, rfl, ?_⟩
      by_cases z : xs.getD n 0 = 0
      · have ez : decide (V.int (xs.getD n 0) = V.int 0) = true := decide_eq_true (by rw [z])
        rw [ez]
        refine iteT ⟨fun σ H2 => σ = [some (.ref a), some (.ref t), some (.int (n : Int))] ∧ H2 = H', ?_, ?_⟩
        · rintro σ H2 ⟨rfl, rfl⟩
          refine ⟨n, Nat.lt_succ_self _, n, rfl, rfl, rfl, ?_, by omega⟩
          rw [← e]
          show _ = stpN xs (n + 1)
          unfold stpN
          rw [if_pos z]
          cases n <;> rfl
        · refine ⟨_, rfl, _, _, rfl, rfl, ?_, rfl⟩
          show [some (V.ref a), some (V.ref t), some (V.int (((n + 1 : Nat) : Int) - 1))] = _
          rw [show (((n + 1 : Nat) : Int) - 1) = (n : Int) by omega]
      · have ez : decide (V.int (xs.getD n 0) = V.int 0) = false := decide_eq_false (fun h => z (V.int.inj h))
        rw [ez]
        exact iteF (fin (stpN_stop (.inr z)))
def spAdded (K : PySem.W.Frag) : Sp := fun vs H Q _ => ∃ (a b : Addr) (xs ys : List Int), vs = [.ref a, .ref b] ∧ Sq K H a (xs.map V.int) ∧ Sq K H b (ys.map V.int) ∧ xs.length ≤ 100000 ∧ ys.length ≤ 100000 ∧
  ∀ H' p, Same H H' → H' p = some (.lst ((addL xs ys).map V.int)) → Q (.ref p) H'
theorem slQ {K : PySem.W.Frag} {H : Hp} {a : Addr} {xs : List V} {lo hi : Option Int} {Q : VK} (h : Sq K H a xs) (q : ∀ H' p, Same H H' → Sq K H' p (cutV xs lo hi) → Q (.ref p) H') : rSlQ K (.ref a) lo hi H Q := by
  rcases h with h | h
  · exact .inl ⟨a, xs, rfl, h, fun H' p s n e => q H' p s (.inl (SqL.of e))⟩
  · exact .inr ⟨a, xs, rfl, h, fun H' p s e => q H' p s (.inr e)⟩
theorem ok_added (T : Txt K mg) : FnOk P w K mg base CX0 1 (He.fAd K ("added", none)) T.d_added ["one", "other"] (spAdded K) := by
  refine FunD.ok T.fn_added sc_added (fun vs H Q E h => ?_) (fun cdv A outer s H vs Q E hr h => ?_)
  · obtain ⟨a, b, xs, ys, rfl, _⟩ := h
    rfl
  · obtain ⟨a, b, xs, ys, rfl, ha, hb, lx, ly, q⟩ := h
    refine ⟨_, PSs.nox (pss_cons (ps_setLcN (i := 2) (own := [("first", 3), ("second", 4)]) rfl sc_added.nd rfl rfl (sw_true rfl rfl rfl (by decide +kernel)) (pi_zipQ (K := K) (by rfl) T.z_zip (pa_cons (pv 0) (pa_cons (pv 1) pa_nil))) (blkOk_by (own := [("first", 3), ("second", 4)]) (N := ["one", "other", "sums", "first", "second"]) (sc := defScope s_added) (by decide +kernel)) (fun _ _ _ _ _ => (pg_pair (K := K) (i := 3) (j := 4) rfl sc_added.nd rfl rfl (Or.inl rfl) (Or.inl rfl))) (fun _ _ _ _ _ => pts_nil) (fun _ _ _ _ _ => (pe_op op_add (pv 3) (pv 4))))
  (pss_one (ps_ret (pe_op op_catN (pe_op op_catN (pv 2) (pe_callTy (call_listK (K := K)) (by rfl) T.z_list (by decide +kernel) (pa_cons (pe_slice (sl_sqK (K := K)) (pv 0) (po_some (pe_callB (call_lenK (K := K)) (by rfl) T.z_len PySem.boot_len (pa_cons (pv 1) pa_nil))) po_none) pa_nil))) (pe_callTy (call_listK (K := K)) (by rfl) T.z_list (by decide +kernel) (pa_cons (pe_slice (sl_sqK (K := K)) (pv 1) (po_some (pe_callB (call_lenK (K := K)) (by rfl) T.z_len PySem.boot_len (pa_cons (pv 0) pa_nil))) po_none) pa_nil)))))), ?_⟩
    obtain ⟨b1, hab⟩ := Sq.cases ha
    obtain ⟨b2, hbb⟩ := Sq.cases hb
    refine ⟨_, rfl, _, rfl, b1, b2, _, _, _, _, rfl, hab, hbb, fun D H1 hD s1 e1 => ?_⟩
    refine lcN_pair (K := K) (walk_zipB (xs := xs.map V.int) (ys := ys.map V.int)) (fun i acc H' => Same H H' ∧ acc = ((List.zipWith (· + ·) xs ys).take i).map V.int) ⟨s1, rfl⟩ (fun i acc H' _ z _ => ⟨hab.same z.1, hbb.same z.1⟩) ?_ ?_
    · intro i x y acc H2 H3 t hx hy _ z eD s3 hT
      obtain ⟨u, hu, rfl⟩ := map_get hx
      obtain ⟨v, hv, rfl⟩ := map_get hy
      obtain ⟨s, rfl⟩ := z
      refine g_pair hT ⟨rfl, yesT ⟨_, rfl, _, rfl, _, _, rfl, rfl, s3 _ _ eD, ?_, fun H5 b5 e5 => ⟨(s.trans s3).but hD b5, ?_⟩⟩⟩
      · rw [List.length_map, List.length_take, List.length_zipWith]
        exact len_big (by omega)
      · have e : (List.zipWith (· + ·) xs ys)[i]? = some (u + v) := by
          rw [List.getElem?_zipWith, hu, hv]
        rw [take_snoc e, List.map_append]
        rfl
    · rintro acc H2 ⟨s, rfl⟩ eD
      have e0 : (List.zipWith (· + ·) xs ys).take (min (xs.map V.int).length (ys.map V.int).length) = List.zipWith (· + ·) xs ys := List.take_of_length_le (by rw [List.length_zipWith, List.length_map, List.length_map]; exact Nat.le_refl _)
      rw [e0] at eD
      refine ⟨_, rfl, ?_⟩
      refine ⟨_, rfl, _, rfl, _, _, rfl, s.sq hb, _, rfl, slQ (s.sq ha) fun H3 p3 s3 h3 => ?_⟩
      refine ⟨_, _, rfl, h3, fun H4 p4 s4 n4 e4 => ?_⟩
      refine ⟨_, _, _, _, rfl, rfl, (s3.trans s4) _ _ eD, e4, ?_, fun H5 p5 s5 n5 e5 => ?_⟩
      · refine Nat.le_trans (Nat.add_le_add_left (cutV_length _ _ _) _) (small ?_)
        rw [List.length_map, List.length_zipWith, List.length_map]
        omega
      have s05 : Same H2 H5 := (s3.trans s4).trans s5
      refine ⟨_, rfl, _, rfl, _, _, rfl, (s.trans s05).sq ha, _, rfl, slQ ((s.trans s05).sq hb) fun H6 p6 s6 h6 => ?_⟩
      refine ⟨_, _, rfl, h6, fun H7 p7 s7 n7 e7 => ?_⟩
      refine ⟨_, _, _, _, rfl, rfl, (s6.trans s7) _ _ e5, e7, ?_, fun H8 p8 s8 n8 e8 => q H8 p8 ?_ ?_⟩
      · refine Nat.le_trans (Nat.add_le_add_left (cutV_length _ _ _) _) (small ?_)
        rw [List.length_append, List.length_map, List.length_zipWith, List.length_map]
        refine Nat.le_trans (Nat.add_le_add_right (Nat.add_le_add_left (cutV_length _ _ _) _) _) ?_
        rw [List.length_map]
        omega
      · exact s.trans (s05.trans ((s6.trans s7).trans s8))
      · rw [e8, List.length_map, List.length_map, cut_from, cut_from]
        unfold addL
        rw [List.map_append, List.map_append, List.map_drop, List.map_drop]
def negL (xs : List Int) : List Int := xs.map fun x => -x
def spNegated (K : PySem.W.Frag) : Sp := fun vs H Q _ => ∃ (a : Addr) (xs : List Int), vs = [.ref a] ∧ Sq K H a (xs.map V.int) ∧ xs.length ≤ 100000 ∧ ∀ H' p, Same H H' → H' p = some (.lst ((negL xs).map V.int)) → Q (.ref p) H'
theorem ok_negated (T : Txt K mg) : FnOk P w K mg base CX0 1 (He.fAd K ("negated", none)) T.d_negated ["entries"] (spNegated K) := by
  refine FunD.ok T.fn_negated sc_negated (fun vs H Q E h => ?_) (fun cdv A outer s H vs Q E hr h => ?_)
  · obtain ⟨a, xs, rfl, _⟩ := h
    rfl
  · obtain ⟨a, xs, rfl, ha, lx, q⟩ := h
    refine ⟨_, PSs.nox (pss_one (ps_ret (pe_lcN (own := [("worth", 1)]) rfl sc_negated.nd (pi_sqB (K := K) (pv 0)) (blkOk_by (own := [("worth", 1)]) (N := ["entries", "worth"]) (sc := defScope s_negated) (by decide +kernel)) (fun _ _ _ _ _ => (pg_name (i := 1) sc_negated.nd rfl (Or.inl rfl))) (fun _ _ _ _ _ => pts_nil) (fun _ _ _ _ _ => (pe_un un_neg (pv 1)))))), ?_⟩
    have step : ∀ (i : Nat) (u : Int), xs[i]? = some u → (negL xs)[i]? = some (-u) := fun i u hu => by
      unfold negL
      rw [List.getElem?_map, hu]
      rfl
    have fin : ((negL xs).take xs.length) = negL xs := List.take_of_length_le (by simp [negL])
    obtain ⟨b, hb⟩ := Sq.cases ha
    refine ⟨_, rfl, b, a, _, rfl, hb, fun D H1 hD s1 e1 => ?_⟩
    refine lcN_at (K := K) walk_Q (fun i acc H' => Same H H' ∧ acc = ((negL xs).take i).map V.int) ⟨s1, rfl⟩ (fun i acc H' _ z _ => hb.same z.1) ?_ ?_
    · rintro i x acc H2 hx ⟨s2, rfl⟩ eD
      obtain ⟨u, hu, rfl⟩ := map_get hx
      refine ⟨rfl, yesT ⟨_, rfl, _, rfl, eD, ?_, fun H3 b3 e3 => ⟨s2.but hD b3, ?_⟩⟩⟩
      · rw [List.length_map, List.length_take]
        exact len_big (by simp [negL]; omega)
      · rw [take_snoc (step i u hu), List.map_append]
        rfl
    · rintro acc H2 ⟨s2, rfl⟩ eD
      rw [List.length_map, fin] at eD
      exact q H2 D s2 eD
def JInv (xs : List Int) (w m : Nat) (a : Addr) (H0 : Hp) (ys : List Int) (b : Nat) : Prop :=
  ys ≠ [] ∧ val ys b = val xs w ∧ 1 ≤ b ∧ (∀ y ∈ ys, y.natAbs < 2 ^ (m + 2 * b)) ∧ b * (ys.length - 1) ≤ w * xs.length ∧ ys.length ≤ xs.length
def spJoined (K : PySem.W.Frag) : Sp := fun vs H Q _ => ∃ (a : Addr) (w m : Nat) (xs : List Int), vs = [.ref a, .int w] ∧ Sq K H a (xs.map V.int) ∧ xs.length ≤ 100000 ∧ (∀ x ∈ xs, x.natAbs < 2 ^ m) ∧ 1 ≤ w ∧ m + 3 * (w * xs.length) + 3 * w ≤ 130000000 ∧ ∀ H', Same H H' → Q (.int (val xs w)) H'
theorem ok_joined (T : Txt K mg) : FnOk P w K mg base CX0 1 (He.fAd K ("joined", none)) T.d_joined ["entries", "width"] (spJoined K) := by
  refine FunD.ok T.fn_joined sc_joined (fun vs H Q E h => ?_) (fun cdv A outer s H vs Q E hr h => ?_)
  · obtain ⟨a, w, m, xs, rfl, _⟩ := h
    rfl
  · obtain ⟨a, w, m, xs, rfl, hS, hl, hm, hw, hb, q⟩ := h
    refine ⟨_, PSs.nox (pss_cons (ps_if (pt_cmpR op_eq (pe_callB (call_lenK (K := K)) (by rfl) T.z_len PySem.boot_len (pa_cons (pv 0) pa_nil)) pe_int (nomark _))
  (pss_one (ps_ret pe_int))
  pss_nil)
  (pss_cons (ps_set (i := 2) sc_joined.nd rfl (Or.inl rfl) (pe_callTy (call_listK (K := K)) (by rfl) T.z_list (by decide +kernel) (pa_cons (pv 0) pa_nil)))
  (pss_cons (ps_set (i := 3) sc_joined.nd rfl (Or.inr rfl) (pv 1))
  (pss_cons (ps_while PassesOwn.never (pt_cmpR op_gt (pe_callB (call_lenK (K := K)) (by rfl) T.z_len PySem.boot_len (pa_cons (pv 2) pa_nil)) pe_int (nomark _))
  (pss_cons (ps_ifJ (pt_truthK (K := K) (pe_op op_odd (pe_callB (call_lenK (K := K)) (by rfl) T.z_len PySem.boot_len (pa_cons (pv 2) pa_nil)) pe_int) (by intro _; rfl))
  (pss_one (ps_expr (pe_bm PySem.F.plainAttrs_list PySem.F.slot_list_append PySem.F.type_list_append mt_appendN (pv 2) (pa_cons pe_int pa_nil))))
  pss_nil)
  (pss_cons (ps_setLcN (i := 2) (own := [("low", 4), ("high", 5)]) rfl sc_joined.nd rfl rfl (sw_true rfl rfl rfl (by decide +kernel)) (pi_zipA (by rfl) T.z_zip (pa_cons (pe_slStep (K := K) (pv 2) po_none (by decide)) (pa_cons (pe_slStep (K := K) (pv 2) (po_some pe_int) (by decide)) pa_nil))) (blkOk_by (own := [("low", 4), ("high", 5)]) (N := ["entries", "width", "parts", "bits", "low", "high"]) (sc := defScope s_joined) (by decide +kernel)) (fun _ _ _ _ _ => (pg_pair (K := K) (i := 4) (j := 5) rfl sc_joined.nd rfl rfl (Or.inl rfl) (Or.inl rfl))) (fun _ _ _ _ _ => pts_nil) (fun _ _ _ _ _ => (pe_op op_add (pv 4) (pe_op op_shlW (pv 5) (pv 3)))))
  (pss_one (ps_set (i := 3) sc_joined.nd rfl (Or.inr rfl) (pe_op op_add (pv 3) (pv 3)))))))
  (pss_one (ps_ret (pe_ix (ix_listK (K := K)) (pv 2) pe_int (fun _ _ => rfl)))))))), ?_⟩
    refine ⟨_, rfl, _, _, rfl, hS, rfl, _, rfl, iteB (fun h0 => ?_) fun h0 => ?_⟩
    · have h1 : xs.length = 0 := by
        have := V.int.inj h0
        rw [List.length_map] at this
        omega
      have h2 := List.eq_nil_of_length_eq_zero h1
      subst h2
      exact q H (Same.refl H)
    have hne : xs ≠ [] := fun z => h0 (by subst z; rfl)
    refine ⟨_, rfl, _, _, rfl, hS, fun H1 l s1 n1 e1 => ?_⟩
    refine ⟨_, rfl, ?_⟩
    refine ⟨fun μ σ H' => ∃ (l' : Addr) (ys : List Int) (b : Nat), σ = [some (.ref a), some (.int w), some (.ref l'), some (.int b), none, none] ∧ Same H H' ∧ H l' = none ∧ H' l' = some (.lst (ys.map V.int)) ∧ μ = ys.length ∧ JInv xs w m a H ys b, ⟨xs.length, l, xs, w, rfl, s1, n1, e1, rfl, hne, rfl, hw, fun y hy => Nat.lt_of_lt_of_le (hm y hy) (Nat.pow_le_pow_right (by decide) (by omega)), Nat.mul_le_mul_left _ (by omega), Nat.le_refl _⟩, ?_⟩
    rintro μ σ H2 ⟨l', ys, b, rfl, s2, n2, e2, rfl, hy0, hv, hb1, hsm, hbl, hyl⟩
    refine ⟨_, rfl, _, _, rfl, .inl (SqL.of e2), _, _, rfl, rfl, _, rfl, iteB (fun hgt => ?_) fun hle => ?_⟩
    · rw [List.length_map] at hgt
      have h2 : 2 ≤ ys.length := by omega
      have hbw : b ≤ w * xs.length := Nat.le_trans (by have := Nat.mul_le_mul_left b (show 1 ≤ ys.length - 1 by omega); omega) hbl
      refine ⟨fun σ' H' => ∃ m', m' < ys.length ∧ ∃ (l' : Addr) (ys : List Int) (b : Nat), σ' = [some (.ref a), some (.int w), some (.ref l'), some (.int b), none, none] ∧ Same H H' ∧ H l' = none ∧ H' l' = some (.lst (ys.map V.int)) ∧ m' = ys.length ∧ JInv xs w m a H ys b, fun _ _ z => z, ?_⟩
      -- if len(parts) & 1: parts.append(0)
      refine ⟨fun σ' H' => ∃ zs : List Int, σ' = [some (.ref a), some (.int w), some (.ref l'), some (.int b), none, none] ∧ Same H H' ∧ H' l' = some (.lst (zs.map V.int)) ∧ zs.length % 2 = 0 ∧ zs.length ≤ ys.length + 1 ∧ ys.length ≤ zs.length ∧ val zs b = val ys b ∧ ∀ y ∈ zs, y.natAbs < 2 ^ (m + 2 * b), ?_, ?_⟩
      · refine ⟨_, rfl, _, _, rfl, .inl (SqL.of e2), ys.length, by rw [List.length_map], rfl, _, rfl, ?_⟩
        by_cases ho : ys.length % 2 = 0
        · rw [ho]
          exact iteF ⟨ys, rfl, s2, e2, ho, by omega, by omega, rfl, hsm⟩
        · have ho1 : ys.length % 2 = 1 := by omega
          rw [ho1]
          refine iteT ⟨_, rfl, .inl ⟨rfl, _, SqL.of e2⟩, l', _, _, rfl, rfl, e2, ?_, fun H3 b3 e3 => ⟨ys ++ [0], rfl, s2.but n2 b3, by rw [e3, List.map_append]; rfl, by rw [List.length_append]; show (ys.length + 1) % 2 = 0; omega, by rw [List.length_append]; exact Nat.le_refl _, by rw [List.length_append]; exact Nat.le_succ _, ?_, ?_⟩⟩
          · rw [List.length_map]
            exact len_big (by omega)
          · rw [val_append]
            show _ + 2 ^ (b * ys.length) * (0 + 2 ^ b * 0) = _
            rw [Int.mul_zero, Int.add_zero, Int.mul_zero, Int.add_zero]
          · intro y hy
            rcases List.mem_append.mp hy with hy | hy
            · exact hsm y hy
            · rw [List.mem_singleton.mp hy]
              exact Nat.pow_pos (by decide)
      rintro σ' H3 ⟨zs, rfl, s3, e3, hev, hz1, hz2, hzv, hzs⟩
      refine ⟨_, rfl, _, _, rfl, SqL.of e3, fun H4 p4 s4 n4 e4 => ?_⟩
      refine ⟨_, rfl, 1, rfl, _, _, rfl, SqL.of (s4 _ _ e3), fun H5 p5 s5 n5 e5 => ?_⟩
      rw [pick_evens, evens_map] at e4
      rw [pick_odds, odds_map] at e5
      refine ⟨_, _, _, _, rfl, .inl ⟨SqL.of (s5 _ _ e4), SqL.of e5, fun D H6 hD s6 e6 => ?_⟩⟩
      have s35 := (s3.trans s4).trans s5
      refine lcN_zipL (xs := (evens zs).map V.int) (ys := (odds zs).map V.int) (fun i acc H' => Same H5 H' ∧ acc = ((comb b zs).take i).map V.int) ⟨s6, rfl⟩ (fun i acc H' _ z _ => ⟨SqL.of (z.1 _ _ (s5 _ _ e4)), SqL.of (z.1 _ _ e5)⟩) ?_ ?_
      · rintro i x y acc H7 H8 t hx hy ⟨s7, rfl⟩ eD s8 hT
        obtain ⟨u, hu, rfl⟩ := map_get hx
        obtain ⟨v, hv', rfl⟩ := map_get hy
        have hvm : v.natAbs < 2 ^ (m + 2 * b) := hzs v (by
          rw [odds_get] at hv'
          exact List.mem_of_getElem? hv')
        refine g_pair hT ⟨rfl, yesT ⟨_, rfl, _, rfl, _, rfl, _, _, rfl, rfl, shl_ok hvm (by omega), _, _, rfl, rfl, s8 _ _ eD, ?_, fun H9 b9 e9 => ⟨(s7.trans s8).but hD b9, ?_⟩⟩⟩
        · rw [List.length_map, List.length_take, comb_length b zs hev]
          exact len_big (by omega)
        · have e : (comb b zs)[i]? = some (u + v * 2 ^ b) := by
            rw [comb_zip b zs hev, List.getElem?_zipWith, hu, hv']
          rw [take_snoc e, List.map_append]
          show _ ++ [V.int (u + v * 2 ^ ((b : Int).toNat))] = _
          rw [Int.toNat_natCast]
          rfl
      · rintro acc H7 ⟨s7, rfl⟩ eD
        have hlen : (comb b zs).length = zs.length / 2 := comb_length b zs hev
        have e0 : (comb b zs).take (min ((evens zs).map V.int).length ((odds zs).map V.int).length) = comb b zs := List.take_of_length_le (by
          rw [List.length_map, List.length_map, evens_length, odds_length, hlen]
          omega)
        rw [e0] at eD
        refine ⟨_, rfl, _, rfl, _, _, rfl, rfl, zs.length / 2, by omega, D, comb b zs, b + b, ?_, s35.trans s7, s35.free hD, eD, hlen.symm, ?_, ?_, by omega, comb_small hb1 zs hzs, ?_, by omega⟩
        · rw [Int.natCast_add]
          rfl
        · intro z
          rw [z] at hlen
          simp at hlen
          omega
        · rw [val_comb b zs hev, hzv, hv]
        · rw [hlen]
          refine Nat.le_trans ?_ hbl
          have : zs.length / 2 - 1 ≤ (ys.length - 1) / 2 := by omega
          have h5 : 2 * (zs.length / 2 - 1) ≤ ys.length - 1 := by omega
          rw [← Nat.two_mul, Nat.mul_comm 2 b, Nat.mul_assoc]
          exact Nat.mul_le_mul_left _ h5
    · rw [List.length_map] at hle
      have h1 : ys.length = 1 := by
        have : 0 < ys.length := List.length_pos_iff.mpr hy0
        omega
      obtain ⟨y, rfl⟩ := List.length_eq_one_iff.mp h1
      refine ⟨_, rfl, _, _, _, _, rfl, rfl, SqL.of e2, at_ints (n := 0) rfl (by simp), ?_⟩
      have e : val [y] b = y := by
        show y + 2 ^ b * 0 = y
        rw [Int.mul_zero, Int.add_zero]
      show Q (.int y) H2
      rw [← e, hv]
      exact q H2 s2
end
end Pl

set_option Elab.async false
set_option linter.all false
set_option maxRecDepth 100000
set_option maxHeartbeats 4000000
namespace Pl
open PySem PySem.Spec PyProof.Rows L2 RZ
section
variable {P : Program} {w : World} {K : PySem.W.Frag} {mg : Str → Option Value} {base : Heap}
theorem natAbs_ediv (n : Int) (b : Nat) : (n / 2 ^ b).natAbs ≤ n.natAbs := by
  have hb := pw b
  by_cases h : 0 ≤ n
  · have h1 : n / 2 ^ b ≤ n := Int.ediv_le_self _ h
    have h2 : 0 ≤ n / 2 ^ b := Int.ediv_nonneg h (by omega)
    omega
  · have h1 : n / 2 ^ b < 0 := Int.ediv_neg_of_neg_of_pos (by omega) hb
    have h2 : n ≤ n / 2 ^ b := by
      refine Int.le_ediv_of_mul_le hb ?_
      have : n * 2 ^ b ≤ n * 1 := Int.mul_le_mul_of_nonpos_left (by omega) (by omega)
      omega
    omega
def spCut (K : PySem.W.Frag) : Sp := fun vs H Q _ => ∃ (n : Int) (b N : Nat), vs = [.int n, .int b] ∧ n.natAbs < 2 ^ N ∧ N + b ≤ 134217000 ∧ ∀ H' p, Same H H' → SqT K H' p [.int (n % 2 ^ b), .int (n / 2 ^ b)] → Q (.ref p) H'
theorem ok_cut_in_two (T : Txt K mg) : FnOk P w K mg base CX0 1 (He.fAd K ("cut_in_two", none)) T.d_cut_in_two ["number", "bits"] (spCut K) := by
  refine FunD.ok T.fn_cut_in_two sc_cut_in_two (fun vs H Q E h => ?_) (fun cdv A outer s H vs Q E hr h => ?_)
  · obtain ⟨n, b, N, rfl, _⟩ := h
    rfl
  · obtain ⟨n, b, N, rfl, hn, hb, q⟩ := h
    refine ⟨_, PSs.nox (pss_cons (ps_set (i := 2) sc_cut_in_two.nd rfl (Or.inl rfl) (pe_op op_shr (pv 0) (pv 1)))
  (pss_one (ps_ret (pe_tupK (K := K) (pa_cons (pe_op op_sub (pv 0) (pe_op op_shlW (pv 2) (pv 1))) (pa_cons (pv 2) pa_nil)))))), ?_⟩
    refine ⟨_, rfl, _, rfl, _, _, rfl, rfl, by omega, ?_⟩
    refine ⟨_, rfl, _, rfl, _, rfl, _, _, rfl, rfl, ?_, _, _, rfl, rfl, _, rfl, by show 2 ≤ sizeLine; exact small (by omega), fun H1 p s1 h1 => q H1 p s1 ?_⟩
    · show CShl (n / 2 ^ (b : Int).toNat) (b : Int)
      rw [Int.toNat_natCast]
      exact shl_ok (Nat.lt_of_le_of_lt (natAbs_ediv n b) hn) (by omega)
    · have e : n - n / 2 ^ (b : Int).toNat * 2 ^ (b : Int).toNat = n % 2 ^ b := by
        rw [Int.toNat_natCast, Int.emod_def, Int.mul_comm]
      have h2 : SqT K H1 p [.int (n - n / 2 ^ (b : Int).toNat * 2 ^ (b : Int).toNat), .int (n / 2 ^ (b : Int).toNat)] := h1
      rw [e, Int.toNat_natCast] at h2
      exact h2
theorem emod_small (n : Int) (b : Nat) : (n % 2 ^ b).natAbs < 2 ^ b := by
  have hb := pw b
  have h0 := Int.emod_nonneg n (show (2 : Int) ^ b ≠ 0 by omega)
  have h1 := Int.emod_lt_of_pos n hb
  have e : (2 : Int) ^ b = ((2 ^ b : Nat) : Int) := by rw [Int.natCast_pow]; rfl
  omega
theorem blocks_length (n : Int) (w L m : Nat) : (blocks n w L m).length = m := by simp [blocks]
theorem blocks_get {n : Int} {w L m i : Nat} (h : i < m) : (blocks n w L m)[i]? = some (n / 2 ^ (w * (L * i)) % 2 ^ (w * L)) := by
  unfold blocks
  rw [List.getElem?_map, List.getElem?_range h]
  rfl
theorem blocks_take2 (n : Int) (w L : Nat) {m i : Nat} (h : i < m) : (blocks n w L (2 * m)).take (2 * (i + 1)) = (blocks n w L (2 * m)).take (2 * i) ++ [n / 2 ^ (w * (L * (2 * i))) % 2 ^ (w * L), n / 2 ^ (w * (L * (2 * i + 1))) % 2 ^ (w * L)] := by
  rw [show 2 * (i + 1) = 2 * i + 1 + 1 by omega, take_snoc (blocks_get (n := n) (w := w) (L := L) (show 2 * i + 1 < 2 * m by omega)), take_snoc (blocks_get (n := n) (w := w) (L := L) (show 2 * i < 2 * m by omega)), List.append_assoc]
  rfl
def spPlain (K : PySem.W.Frag) : Sp := fun vs H Q _ => ∃ (n : Int) (w c N : Nat), vs = [.int n, .int w, .int c] ∧ n.natAbs < 2 ^ N ∧ 1 ≤ w ∧ w ≤ 100000000 ∧ c ≤ 100000 ∧ N + 8 * (w * (c + 1)) ≤ 130000000 ∧ ∀ H' p, Same H H' → H' p = some (.lst ((digL n w c).map V.int)) → Q (.ref p) H'
theorem ok_plain_digits (T : Txt K mg) : FnOk P w K mg base CX0 2 (He.fAd K ("plain_digits", none)) T.d_plain_digits ["number", "width", "count"] (spPlain K) := by
  refine FunD.ok T.fn_plain_digits sc_plain_digits (fun vs H Q E h => ?_) (fun cdv A outer s H vs Q E hr h => ?_)
  · obtain ⟨n, w, c, N, rfl, _⟩ := h
    rfl
  · obtain ⟨n, w, c, N, rfl, hn, hw, hwb, hc, hb, q⟩ := h
    refine ⟨_, PSs.nox (pss_cons (ps_if (pt_cmpR op_eq (pv 2) pe_int (nomark _))
  (pss_one (ps_ret (pe_lstN pa_nil)))
  pss_nil)
  (pss_cons (ps_set (i := 3) sc_plain_digits.nd rfl (Or.inr rfl) pe_int)
  (pss_cons (ps_while PassesOwn.never (pt_cmpR op_lt (pv 3) (pv 2) (nomark _))
  (pss_one (ps_set (i := 3) sc_plain_digits.nd rfl (Or.inr rfl) (pe_op op_add (pv 3) (pv 3)))))
  (pss_cons (ps_set (i := 4) sc_plain_digits.nd rfl (Or.inl rfl) (pe_lstN (pa_cons (pe_ix (ix_tupK (K := K)) (pe_call (ok_cut_in_two T) (hr.mono (by decide)) (by rfl) T.m_cut_in_two T.fn_cut_in_two.kp T.b_cut_in_two .nil pass0 (pa_cons (pv 0) (pa_cons (pe_op op_mul (pv 3) (pv 1)) pa_nil))) pe_int (fun _ _ => rfl)) pa_nil)))
  (pss_cons (ps_while PassesOwn.never (pt_cmpR op_gt (pv 3) pe_int (nomark _))
  (pss_cons (ps_set (i := 3) sc_plain_digits.nd rfl (Or.inr rfl) (pe_op op_fdivN (pv 3) pe_int))
  (pss_one (ps_setLc2N (i := 4) (own := [("part", 5), ("half", 6)]) (vs1 := [6]) rfl sc_plain_digits.nd rfl rfl (sw_true rfl rfl rfl (by decide +kernel)) (pi_listK (K := K) (pv 4)) (blkOk_by (own := [("part", 5), ("half", 6)]) (N := ["number", "width", "count", "lanes", "parts", "part", "half"]) (sc := defScope s_plain_digits) (by decide +kernel)) (by decide) (fun _ _ _ _ _ => (pg_name (i := 5) sc_plain_digits.nd rfl (Or.inl rfl))) (fun _ _ _ _ _ => pts_nil) (fun _ _ _ _ _ => (pi_tupK (K := K) (pe_call (ok_cut_in_two T) (hr.mono (by decide)) (by rfl) T.m_cut_in_two T.fn_cut_in_two.kp T.b_cut_in_two .nil pass0 (pa_cons (pv 5) (pa_cons (pe_op op_mul (pv 3) (pv 1)) pa_nil))))) (fun _ _ _ _ _ => (pg_name (i := 6) sc_plain_digits.nd rfl (Or.inl rfl))) (fun _ _ _ _ _ => pts_nil) (fun _ _ _ _ _ => (pv 6))))))
  (pss_one (ps_ret (pe_slice (sl_listK (K := K)) (pv 4) po_none (po_some (pv 2)))))))))), ?_⟩
    refine ⟨_, rfl, rfl, _, rfl, iteB (fun h0 => ?_) fun h0 => ?_⟩
    · have h1 : c = 0 := by
        have := V.int.inj h0
        omega
      subst h1
      exact ⟨Nat.zero_le _, fun H1 p s1 n1 e1 => q H1 p s1 e1⟩
    have hc0 : c ≠ 0 := fun z => h0 (by subst z; rfl)
    -- lanes: a power of two that is not less
    refine ⟨fun μ σ H' => ∃ (k : Nat), σ = [some (.int n), some (.int w), some (.int c), some (.int ((2 ^ k : Nat) : Int)), none, none, none] ∧ H' = H ∧ μ = c - 2 ^ k ∧ 2 ^ k ≤ 2 * c, ⟨c - 2 ^ 0, 0, rfl, rfl, rfl, by show 1 ≤ 2 * c; omega⟩, ?_⟩
    rintro μ σ H1 ⟨k, rfl, rfl, rfl, hk⟩
    have hkp : 0 < 2 ^ k := Nat.pow_pos (by decide)
    refine ⟨_, rfl, _, rfl, _, _, rfl, rfl, _, rfl, iteB (fun hlt => ?_) fun hge => ?_⟩
    · refine ⟨fun σ' H' => ∃ m', m' < c - 2 ^ k ∧ ∃ (k : Nat), σ' = [some (.int n), some (.int w), some (.int c), some (.int ((2 ^ k : Nat) : Int)), none, none, none] ∧ H' = H1 ∧ m' = c - 2 ^ k ∧ 2 ^ k ≤ 2 * c, fun _ _ z => z, ?_⟩
      have e2 : 2 ^ (k + 1) = 2 ^ k + 2 ^ k := by rw [Nat.pow_succ]; omega
      refine ⟨_, rfl, _, rfl, _, _, rfl, rfl, c - 2 ^ (k + 1), by omega, k + 1, ?_, rfl, rfl, by omega⟩
      rw [e2, Int.natCast_add]
      rfl
    have hM : c ≤ 2 ^ k := by omega
    -- parts = [cut_in_two(number, lanes * width)[0]]
    have hkw : 2 ^ k * w ≤ 2 * (w * c) := by
      have := Nat.mul_le_mul_right w hk
      rw [Nat.mul_assoc, Nat.mul_comm c w] at this
      exact this
    have hwc : w * (c + 1) = w * c + w := Nat.mul_succ w c
    have hk2 : 2 ^ k ≤ 200000 := by omega
    refine ⟨_, rfl, _, rfl, _, rfl, _, _, rfl, rfl, .inl ⟨by omega, by omega⟩, n, 2 ^ k * w, N, by rw [Int.natCast_mul]; rfl, hn, by omega, fun H2 t s2 h2 => ?_⟩
    refine ⟨_, _, _, _, rfl, rfl, h2, rfl, by show 1 ≤ sizeLine; exact small (by omega), fun H3 p3 s3 n3 e3 => ?_⟩
    have s13 := s2.trans s3
    refine ⟨fun μ σ H' => ∃ (j l : Nat) (p : Addr) (y z : Option V), σ = [some (.int n), some (.int w), some (.int c), some (.int ((2 ^ j : Nat) : Int)), some (.ref p), y, z] ∧ Same H1 H' ∧ H1 p = none ∧ H' p = some (.lst ((blocks n w (2 ^ j) (2 ^ l)).map V.int)) ∧ μ = j ∧ j + l = k, ⟨k, k, 0, p3, none, none, rfl, s13, s2.free n3, ?_, rfl, rfl⟩, ?_⟩
    · rw [e3]
      have e : blocks n w (2 ^ k) (2 ^ 0) = [n % 2 ^ (2 ^ k * w)] := by
        show [n / 2 ^ (w * (2 ^ k * 0)) % 2 ^ (w * 2 ^ k)] = _
        rw [Nat.mul_zero, Nat.mul_zero, Nat.mul_comm w]
        show [n / 1 % _] = _
        rw [Int.ediv_one]
      rw [e]
      rfl
    rintro μ σ H4 ⟨j, l, p, y, z, rfl, s4, n4, e4, hμ, hjl⟩
    refine ⟨_, rfl, _, _, rfl, rfl, _, rfl, iteB (fun hgt => ?_) fun hle => ?_⟩
    · cases j with
      | zero => exact absurd hgt (by decide)
      | succ j =>
        have hjk : 2 ^ (j + 1) ≤ 2 ^ k := Nat.pow_le_pow_right (by decide) (by omega)
        have hj2 : 2 ^ (j + 1) = 2 * 2 ^ j := by rw [Nat.pow_succ, Nat.mul_comm]
        have hlk : 2 ^ l ≤ 2 ^ k := Nat.pow_le_pow_right (by decide) (by omega)
        have hjp : 0 < 2 ^ j := Nat.pow_pos (by decide)
        have hjw : 2 ^ j * w ≤ 2 ^ k * w := Nat.mul_le_mul_right w (by omega)
        have hj1w : w * (2 * 2 ^ j) ≤ 2 ^ k * w := by
          rw [← hj2, Nat.mul_comm]
          exact Nat.mul_le_mul_right w hjk
        refine ⟨fun σ' H' => ∃ m', m' < μ ∧ ∃ (j l : Nat) (p : Addr) (y z : Option V), σ' = [some (.int n), some (.int w), some (.int c), some (.int ((2 ^ j : Nat) : Int)), some (.ref p), y, z] ∧ Same H1 H' ∧ H1 p = none ∧ H' p = some (.lst ((blocks n w (2 ^ j) (2 ^ l)).map V.int)) ∧ m' = j ∧ j + l = k, fun _ _ z => z, ?_⟩
        refine ⟨_, rfl, _, _, rfl, rfl, ⟨by decide, by decide⟩, ?_⟩
        have eh : (((2 ^ (j + 1) : Nat) : Int)).fdiv 2 = ((2 ^ j : Nat) : Int) := by
          rw [hj2, Int.fdiv_eq_ediv_of_nonneg _ (by decide)]
          omega
        refine ⟨_, rfl, p, rfl, ⟨_, SqL.of e4⟩, fun D H5 hD s5 e5 => ?_⟩
        refine lc2N_list (xs := (blocks n w (2 ^ (j + 1)) (2 ^ l)).map V.int) (fun i acc H' => Same H4 H' ∧ acc = ((blocks n w (2 ^ j) (2 * 2 ^ l)).take (2 * i)).map V.int) ⟨s5, rfl⟩ (fun i acc H' _ z _ => SqL.of (z.1 _ _ e4)) ?_ ?_
        · rintro i x acc H6 hx ⟨s6, rfl⟩ eD
          have hi : i < 2 ^ l := by
            have := (List.getElem?_eq_some_iff.mp hx).1
            rw [List.length_map, blocks_length] at this
            exact this
          obtain ⟨u, hu, rfl⟩ := map_get hx
          rw [blocks_get hi] at hu
          have hu' := Option.some.inj hu
          refine ⟨rfl, yesT ?_⟩
          have ev : (V.int u :: [V.int ((((2 ^ (j + 1) : Nat) : Int)).fdiv 2 * (w : Int))]) = [.int u, .int ((2 ^ j * w : Nat) : Int)] := by rw [eh, Int.natCast_mul]
          refine ⟨_, rfl, _, rfl, _, rfl, _, _, rfl, rfl, .inl (by rw [eh]; exact ⟨by omega, by omega⟩), u, 2 ^ j * w, w * 2 ^ (j + 1), ev, ?_, by rw [hj2]; omega, fun H7 t7 s7 h7 => ?_⟩
          · rw [← hu']
            exact emod_small _ _
          have elo : u % 2 ^ (2 ^ j * w) = n / 2 ^ (w * (2 ^ j * (2 * i))) % 2 ^ (w * 2 ^ j) := by rw [← hu', hj2, block_low]
          have ehi : u / 2 ^ (2 ^ j * w) = n / 2 ^ (w * (2 ^ j * (2 * i + 1))) % 2 ^ (w * 2 ^ j) := by rw [← hu', hj2, block_high]
          rw [elo, ehi] at h7
          have eD7 := s7 _ _ eD
          refine ⟨_, rfl, ⟨_, h7⟩, in_tup (xs := [_, _]) (fun jj acc H' => Same H4 H' ∧ SqT K H' t7 [.int (n / 2 ^ (w * (2 ^ j * (2 * i))) % 2 ^ (w * 2 ^ j)), .int (n / 2 ^ (w * (2 ^ j * (2 * i + 1))) % 2 ^ (w * 2 ^ j))] ∧ acc = (((blocks n w (2 ^ j) (2 * 2 ^ l)).take (2 * i)).map V.int) ++ [V.int (n / 2 ^ (w * (2 ^ j * (2 * i))) % 2 ^ (w * 2 ^ j)), V.int (n / 2 ^ (w * (2 ^ j * (2 * i + 1))) % 2 ^ (w * 2 ^ j))].take jj) eD7 ⟨s6.trans s7, h7, by simp⟩ (fun jj acc H' _ z _ => z.2.1) ?_ ?_⟩
          · rintro jj x acc H8 hx8 ⟨s8, h8, rfl⟩ eD8
            refine ⟨rfl, yesT ⟨_, rfl, eD8, ?_, fun H9 b9 e9 => ⟨s8.but hD b9, ?_, ?_⟩⟩⟩
            · rw [List.length_append, List.length_map, List.length_take, blocks_length, List.length_take]
              refine len_big ?_
              simp only [List.length_cons, List.length_nil]
              omega
            · rcases h8 with (h8 | ⟨o, h8⟩) | h8
              · exact .inl (.inl (b9 _ _ (ne_of h8 eD8 (by intro z; cases z)) h8))
              · exact .inl (.inr ⟨o, b9 _ _ (ne_of h8 eD8 (by intro z; cases z)) h8⟩)
              · exact .inr h8
            · rw [take_snoc hx8, List.append_assoc]
          · rintro acc H8 ⟨s8, h8, rfl⟩ eD8
            refine ⟨s8, ?_⟩
            rw [blocks_take2 n w (2 ^ j) hi, List.map_append]
            rfl
        · rintro acc H6 ⟨s6, rfl⟩ eD
          rw [List.length_map, blocks_length, List.take_of_length_le (by rw [blocks_length]; exact Nat.le_refl _), show 2 * 2 ^ l = 2 ^ (l + 1) by rw [Nat.pow_succ, Nat.mul_comm]] at eD
          refine ⟨j, by omega, j, l + 1, D, y, z, ?_, s4.trans s6, s4.free hD, eD, rfl, by omega⟩
          rw [← eh]
          rfl
    · have hj0 : j = 0 := by
        cases j with
        | zero => rfl
        | succ j =>
          have : 0 < 2 ^ j := Nat.pow_pos (by decide)
          have e : 2 ^ (j + 1) = 2 * 2 ^ j := by rw [Nat.pow_succ, Nat.mul_comm]
          omega
      subst hj0
      have hl : l = k := by omega
      subst hl
      refine ⟨_, rfl, _, rfl, _, rfl, _, _, rfl, SqL.of e4, fun H5 p5 s5 n5 e5 => q H5 p5 (s4.trans s5) ?_⟩
      rw [e5, cut_to, ← List.map_take]
      show some (HO.lst (((blocks n w 1 (2 ^ l)).take c).map V.int)) = _
      rw [blocks_one, digL_take n w hM]
end
end Pl

set_option Elab.async false
set_option linter.all false
set_option maxRecDepth 100000
set_option maxHeartbeats 4000000
namespace Pl
open PySem PySem.Spec PyProof.Rows L2 RZ
section
variable {P : Program} {w : World} {K : PySem.W.Frag} {mg : Str → Option Value} {base : Heap}
theorem intBits_eq (n : Int) : True := trivial
def spBSize : Sp := fun vs H Q _ => ∃ (n : Int) (w : Nat), vs = [.int n, .int w] ∧ 1 ≤ w ∧ w ≤ 1000000 ∧ Q (.int (((Builtin.Int.intBits n + 1) / w + 1 : Nat) : Int)) H
theorem ok_balanced_size (T : Txt K mg) : FnOk P w K mg base CX0 1 (He.fAd K ("balanced_size", none)) T.d_balanced_size ["number", "width"] spBSize := by
  refine FunD.ok T.fn_balanced_size sc_balanced_size (fun vs H Q E h => ?_) (fun cdv A outer s H vs Q E hr h => ?_)
  · obtain ⟨n, w, rfl, _⟩ := h
    rfl
  · obtain ⟨n, w, rfl, hw, hw2, q⟩ := h
    refine ⟨_, PSs.nox (pss_one (ps_ret (pe_op op_add (pe_op op_fdivN (pe_op op_add (pe_bits (pv 0)) pe_int) (pv 1)) pe_int))), ?_⟩
    refine ⟨_, rfl, _, rfl, _, _, rfl, rfl, _, rfl, _, _, rfl, rfl, ⟨by omega, by omega⟩, _, _, rfl, rfl, ?_⟩
    have e : (((Builtin.Int.intBits n : Nat) : Int) + 1).fdiv (w : Int) + 1 = (((Builtin.Int.intBits n + 1) / w + 1 : Nat) : Int) := by
      rw [Int.fdiv_eq_ediv_of_nonneg _ (by omega), Int.natCast_add, Int.natCast_ediv, Int.natCast_add]
      rfl
    show Q (.int ((((Builtin.Int.intBits n : Nat) : Int) + 1).fdiv (w : Int) + 1)) H
    rw [e]
    exact q
theorem flat_rep (c : Nat) (x : Int) : (List.replicate c [V.int x]).flatten = (List.replicate c x).map V.int := by
  rw [List.map_replicate]
  induction c with
  | zero => rfl
  | succ k ih =>
    rw [List.replicate_succ, List.replicate_succ, List.flatten_cons, ih]
    rfl
def spBal (K : PySem.W.Frag) : Sp := fun vs H Q _ => ∃ (n : Int) (w c N : Nat), vs = [.int n, .int w, .int c] ∧ n.natAbs < 2 ^ N ∧ 1 ≤ w ∧ w ≤ 1000000 ∧ c ≤ 100000 ∧ N + 20 * (w * (c + 1)) + 2 * c ≤ 120000000 ∧ ∀ H' p, Same H H' → H' p = some (.lst ((balL n w c).map V.int)) → Q (.ref p) H'
theorem ok_balanced_digits (T : Txt K mg) : FnOk P w K mg base CX0 3 (He.fAd K ("balanced_digits", none)) T.d_balanced_digits ["number", "width", "count"] (spBal K) := by
  refine FunD.ok T.fn_balanced_digits sc_balanced_digits (fun vs H Q E h => ?_) (fun cdv A outer s H vs Q E hr h => ?_)
  · obtain ⟨n, w, c, N, rfl, _⟩ := h
    rfl
  · obtain ⟨n, w, c, N, rfl, hn, hw, hwb, hc, hb, q⟩ := h
    refine ⟨_, PSs.nox (pss_cons (ps_if (pt_cmpR op_lt (pe_bits (pv 0)) (pv 1) (nomark _))
  (pss_one (ps_ret (pe_slice (sl_listK (K := K)) (pe_op op_catN (pe_lstN (pa_cons (pv 0) pa_nil)) (pe_op op_repN (pe_lstN (pa_cons pe_int pa_nil)) (pe_op op_sub (pv 2) pe_int))) po_none (po_some (pv 2)))))
  pss_nil)
  (pss_cons (ps_set (i := 3) sc_balanced_digits.nd rfl (Or.inl rfl) (pe_ifExpJ (pt_cmpR op_eq (pv 1) pe_int (nomark _)) (pv 2) (pe_callB (call_min2 rfl) (by rfl) T.z_min (by decide +kernel) (pa_cons (pv 2) (pa_cons (pe_call (ok_balanced_size T) (hr.mono (by decide)) (by rfl) T.m_balanced_size T.fn_balanced_size.kp T.b_balanced_size .nil pass0 (pa_cons (pv 0) (pa_cons (pv 1) pa_nil))) pa_nil)))))
  (pss_cons (ps_set (i := 4) sc_balanced_digits.nd rfl (Or.inr rfl) (pe_op op_shlW pe_int (pe_op op_sub (pv 1) pe_int)))
  (pss_cons (ps_set (i := 5) sc_balanced_digits.nd rfl (Or.inl rfl) (pe_op op_add (pv 0) (pe_call (ok_joined T) (hr.mono (by decide)) (by rfl) T.m_joined T.fn_joined.kp T.b_joined .nil pass0 (pa_cons (pe_op op_repN (pe_lstN (pa_cons (pv 4) pa_nil)) (pv 3)) (pa_cons (pv 1) pa_nil)))))
  (pss_cons (ps_setLcN (i := 6) (own := [("digit", 7)]) rfl sc_balanced_digits.nd rfl rfl (sw_true rfl rfl rfl (by decide +kernel)) (pi_listK (K := K) (pe_call (ok_plain_digits T) (hr.mono (by decide)) (by rfl) T.m_plain_digits T.fn_plain_digits.kp T.b_plain_digits .nil pass0 (pa_cons (pv 5) (pa_cons (pv 1) (pa_cons (pv 3) pa_nil))))) (blkOk_by (own := [("digit", 7)]) (N := ["number", "width", "count", "used", "half", "moved", "digits", "digit"]) (sc := defScope s_balanced_digits) (by decide +kernel)) (fun _ _ _ _ _ => (pg_name (i := 7) sc_balanced_digits.nd rfl (Or.inl rfl))) (fun _ _ _ _ _ => pts_nil) (fun _ _ _ _ _ => (pe_op op_sub (pv 7) (pv 4))))
  (pss_one (ps_ret (pe_op op_catN (pv 6) (pe_op op_repN (pe_lstN (pa_cons pe_int pa_nil)) (pe_op op_sub (pv 2) (pv 3))))))))))), ?_⟩
    have hwc : w * (c + 1) = w * c + w := Nat.mul_succ w c
    refine ⟨_, rfl, _, rfl, _, rfl, _, _, rfl, rfl, _, rfl, iteB (fun hlt => ?_) fun hge => ?_⟩
    · -- the number is its own first digit
      have hlt' : Builtin.Int.intBits n < w := by omega
      have hs : n.natAbs < 2 ^ (w - 1) := Nat.lt_of_lt_of_le (bits_lt n) (Nat.pow_le_pow_right (by decide) (by omega))
      have hs2 : (n.natAbs : Int) < 2 ^ (w - 1) := by
        have e : (2 : Int) ^ (w - 1) = ((2 ^ (w - 1) : Nat) : Int) := by rw [Int.natCast_pow]; rfl
        rw [e]
        omega
      have eb : balL n w c = ent [n] c := by
        have h1 := (bal_iff [n] hw c).mpr fun i _ => by
          have hp := pw (w - 1)
          cases i with
          | zero =>
            show -(2 ^ (w - 1)) ≤ n ∧ n < 2 ^ (w - 1)
            omega
          | succ i =>
            show -(2 ^ (w - 1)) ≤ (0 : Int) ∧ (0 : Int) < 2 ^ (w - 1)
            omega
        have e : val [n] w = n := by
          show n + 2 ^ w * 0 = n
          rw [Int.mul_zero, Int.add_zero]
        rw [e] at h1
        exact h1
      refine ⟨_, rfl, by show 1 ≤ sizeLine; exact small (by omega), fun H1 p1 s1 n1 e1 => ?_⟩
      refine ⟨by show 1 ≤ sizeLine; exact small (by omega), fun H2 p2 s2 n2 e2 => ?_⟩
      refine ⟨_, rfl, _, _, rfl, rfl, _, _, _, rfl, rfl, e2, by omega, by omega, ?_, fun H3 p3 s3 n3 e3 => ?_⟩
      · show 1 * ((c : Int) - 1).toNat ≤ sizeLine
        exact small (by omega)
      refine ⟨_, _, _, _, rfl, rfl, (s2.trans s3) _ _ e1, e3, ?_, fun H4 p4 s4 n4 e4 => ?_⟩
      · rw [flat_rep, List.length_map, List.length_replicate]
        show 1 + _ ≤ sizeLine
        exact small (by omega)
      refine ⟨_, rfl, _, rfl, _, _, rfl, SqL.of e4, fun H5 p5 s5 n5 e5 => q H5 p5 (((s1.trans s2).trans s3).trans (s4.trans s5)) ?_⟩
      rw [e5, cut_to, flat_rep, eb]
      have ee : ([V.int n] ++ (List.replicate ((c : Int) - 1).toNat (0 : Int)).map V.int).take c = (([n] ++ List.replicate ((c : Int) - 1).toNat 0).take c).map V.int := by
        rw [← List.map_singleton, ← List.map_append, List.map_take]
      rw [ee]
      congr 2
      congr 1
      refine List.ext_getElem? fun i => ?_
      unfold ent
      rw [List.getElem?_take, List.getElem?_map]
      by_cases hi : i < c
      · rw [if_pos hi, List.getElem?_range hi]
        cases i with
        | zero => rfl
        | succ i =>
          rw [List.getElem?_append_right (by simp), List.getElem?_replicate, if_pos (by simp; omega)]
          rfl
      · rw [if_neg hi, List.getElem?_eq_none (by simp; omega)]
        rfl
    -- used
    have hge' : w ≤ Builtin.Int.intBits n := by omega
    refine ⟨fun v H' => ∃ u : Nat, v = .int u ∧ H' = H ∧ u ≤ c ∧ balL n w c = balL n w u ++ List.replicate (c - u) 0, ?_, ?_⟩
    · refine ⟨_, rfl, rfl, _, rfl, ?_⟩
      by_cases h1 : w = 1
      · subst h1
        exact iteT ⟨_, rfl, c, rfl, rfl, Nat.le_refl _, by rw [Nat.sub_self, List.replicate_zero, List.append_nil]⟩
      · have ez : decide (V.int (w : Int) = V.int 1) = false := decide_eq_false (fun h => h1 (by have := V.int.inj h; omega))
        rw [ez]
        refine iteF ⟨_, rfl, _, rfl, _, rfl, n, w, rfl, hw, hwb, ?_⟩
        refine ⟨_, _, rfl, ?_⟩
        have em : (if (((Builtin.Int.intBits n + 1) / w + 1 : Nat) : Int) < (c : Int) then (((Builtin.Int.intBits n + 1) / w + 1 : Nat) : Int) else (c : Int)) = ((min c ((Builtin.Int.intBits n + 1) / w + 1) : Nat) : Int) := by
          split <;> omega
        rw [em]
        refine ⟨_, rfl, rfl, Nat.min_le_left _ _, ?_⟩
        by_cases hcs : c ≤ (Builtin.Int.intBits n + 1) / w + 1
        · rw [Nat.min_eq_left hcs, Nat.sub_self, List.replicate_zero, List.append_nil]
        · rw [Nat.min_eq_right (by omega)]
          refine bal_more (by omega) (Nat.le_add_left 1 _) ?_ c (by omega)
          have hb1 := bits_lt n
          have hlt : Builtin.Int.intBits n + 1 < w * ((Builtin.Int.intBits n + 1) / w + 1) := by
            have := Nat.lt_mul_div_succ (Builtin.Int.intBits n + 1) (show 0 < w by omega)
            exact this
          have hp : 4 * 2 ^ Builtin.Int.intBits n ≤ 2 ^ (w * ((Builtin.Int.intBits n + 1) / w + 1)) := by
            rw [show 4 * 2 ^ Builtin.Int.intBits n = 2 ^ (Builtin.Int.intBits n + 2) by rw [Nat.pow_add]; omega]
            exact Nat.pow_le_pow_right (by decide) (by omega)
          have e : (2 : Int) ^ (w * ((Builtin.Int.intBits n + 1) / w + 1)) = ((2 ^ (w * ((Builtin.Int.intBits n + 1) / w + 1)) : Nat) : Int) := by rw [Int.natCast_pow]; rfl
          rw [e]
          omega
    rintro v H' ⟨u, rfl, rfl, huc, hbal⟩
    -- half
    have hwu : w * (u + 1) = w * u + w := Nat.mul_succ w u
    have hwuc : w * u ≤ w * c := Nat.mul_le_mul_left w huc
    refine ⟨_, rfl, _, _, rfl, rfl, _, _, rfl, rfl, ?_, ?_⟩
    · show CShl 1 ((w : Int) - 1)
      rw [show ((w : Int) - 1) = ((w - 1 : Nat) : Int) by omega]
      exact shl_ok (i := 1) (n := 1) (by decide) (by omega)
    have eh : (1 : Int) * 2 ^ (((w : Int) - 1).toNat) = 2 ^ (w - 1) := by
      rw [Int.one_mul, show ((w : Int) - 1) = ((w - 1 : Nat) : Int) by omega, Int.toNat_natCast]
    have eh2 : (fun i j : Int => V.int (i * 2 ^ j.toNat)) 1 ((w : Int) - 1) = V.int (2 ^ (w - 1)) := by
      show V.int ((1 : Int) * 2 ^ (((w : Int) - 1).toNat)) = _
      rw [eh]
    -- moved
    refine ⟨_, rfl, _, rfl, by show 1 ≤ sizeLine; exact small (by omega), fun H1 p1 s1 n1 e1 => ?_⟩
    refine ⟨_, rfl, _, _, _, rfl, rfl, e1, by omega, by omega, ?_, fun H2 p2 s2 n2 e2 => ?_⟩
    · show 1 * (u : Int).toNat ≤ sizeLine
      exact small (by omega)
    rw [eh2, flat_rep, Int.toNat_natCast] at e2
    have hsm : ∀ x ∈ List.replicate u ((2 : Int) ^ (w - 1)), x.natAbs < 2 ^ w := fun x hx => by
      rw [(List.mem_replicate.mp hx).2, Int.natAbs_pow]
      exact Nat.pow_lt_pow_right (by decide) (by omega)
    refine ⟨_, rfl, p2, w, w, List.replicate u (2 ^ (w - 1)), rfl, .inl (SqL.of e2), by rw [List.length_replicate]; omega, hsm, hw, by rw [List.length_replicate]; omega, fun H3 s3 => ?_⟩
    refine ⟨_, _, rfl, rfl, ?_⟩
    have hrep : (rep w u).natAbs < 2 ^ (w + (w + 1) * u) := by
      have := val_small (w := w) _ hsm
      rw [List.length_replicate] at this
      exact this
    have hmv : (n + rep w u).natAbs < 2 ^ (N + w + (w + 1) * u + 1) := by
      have a1 : (n + rep w u).natAbs ≤ n.natAbs + (rep w u).natAbs := Int.natAbs_add_le _ _
      have a2 : 2 ^ N ≤ 2 ^ (N + w + (w + 1) * u) := Nat.pow_le_pow_right (by decide) (by omega)
      have a3 : 2 ^ (w + (w + 1) * u) ≤ 2 ^ (N + w + (w + 1) * u) := Nat.pow_le_pow_right (by decide) (by omega)
      rw [Nat.pow_succ]
      omega
    have hwu1 : (w + 1) * u = w * u + u := Nat.succ_mul w u
    -- digits
    refine ⟨_, rfl, _, rfl, _, rfl, n + rep w u, w, u, _, rfl, hmv, hw, by omega, by omega, by omega, fun H4 p4 s4 e4 => ?_⟩
    have s14 := ((s1.trans s2).trans s3).trans s4
    refine ⟨_, rfl, ⟨_, SqL.of e4⟩, fun D H5 hD s5 e5 => ?_⟩
    refine lcN_list (xs := (digL (n + rep w u) w u).map V.int) (fun i acc H' => Same H4 H' ∧ acc = ((balL n w u).take i).map V.int) ⟨s5, rfl⟩ (fun i acc H' _ z _ => SqL.of (z.1 _ _ e4)) ?_ ?_
    · rintro i x acc H6 hx ⟨s6, rfl⟩ eD
      obtain ⟨y, hy, rfl⟩ := map_get hx
      refine ⟨rfl, yesT ⟨_, rfl, _, rfl, _, _, rfl, rfl, eD, ?_, fun H7 b7 e7 => ⟨s6.but hD b7, ?_⟩⟩⟩
      · rw [List.length_map, List.length_take, balL_length]
        exact len_big (by omega)
      · have e : (balL n w u)[i]? = some (y - 2 ^ (w - 1)) := by
          unfold balL
          rw [List.getElem?_map, hy]
          rfl
        rw [take_snoc e, List.map_append]
        show _ ++ [V.int (y - (1 : Int) * 2 ^ (((w : Int) - 1).toNat))] = _
        rw [eh]
        rfl
    rintro acc H6 ⟨s6, rfl⟩ eD
    rw [List.length_map, digL_length, List.take_of_length_le (by rw [balL_length]; exact Nat.le_refl _)] at eD
    refine ⟨_, rfl, by show 1 ≤ sizeLine; exact small (by omega), fun H7 p7 s7 n7 e7 => ?_⟩
    refine ⟨_, rfl, _, rfl, _, _, rfl, rfl, _, _, _, rfl, rfl, e7, by omega, by omega, ?_, fun H8 p8 s8 n8 e8 => ?_⟩
    · show 1 * ((c : Int) - (u : Int)).toNat ≤ sizeLine
      exact small (by omega)
    refine ⟨_, _, _, _, rfl, rfl, (s7.trans s8) _ _ eD, e8, ?_, fun H9 p9 s9 n9 e9 => q H9 p9 ((s14.trans s6).trans ((s7.trans s8).trans s9)) ?_⟩
    · rw [flat_rep, List.length_map, List.length_map, List.length_replicate, balL_length]
      exact small (by omega)
    · rw [e9, flat_rep, hbal, List.map_append, show ((c : Int) - (u : Int)).toNat = c - u by omega]
end
end Pl

set_option Elab.async false
set_option linter.all false
set_option maxRecDepth 100000
set_option maxHeartbeats 4000000
namespace Pl
open PySem PySem.Spec PyProof.Rows L2 RZ
section
variable {P : Program} {w : World} {K : PySem.W.Frag} {mg : Str → Option Value} {base : Heap}
def spWords : Sp := fun vs H Q _ => ∃ n : Int, vs = [.int n] ∧ Q (.int ((Builtin.Int.intBits n / 30 + 1 : Nat) : Int)) H
theorem ok__words (T : Txt K mg) : FnOk P w K mg base CX0 1 (He.fAd K ("_words", none)) T.d__words ["number"] spWords := by
  refine FunD.ok T.fn__words sc__words (fun vs H Q E h => ?_) (fun cdv A outer s H vs Q E hr h => ?_)
  · obtain ⟨n, rfl, _⟩ := h
    rfl
  · obtain ⟨n, rfl, q⟩ := h
    refine ⟨_, PSs.nox (pss_one (ps_ret (pe_op op_add (pe_op op_fdivN (pe_bits (pv 0)) pe_int) pe_int))), ?_⟩
    refine ⟨_, rfl, _, rfl, _, _, rfl, rfl, ⟨by omega, by omega⟩, _, _, rfl, rfl, ?_⟩
    have e : ((Builtin.Int.intBits n : Nat) : Int).fdiv 30 + 1 = ((Builtin.Int.intBits n / 30 + 1 : Nat) : Int) := by
      rw [Int.fdiv_eq_ediv_of_nonneg _ (by omega)]
      omega
    show Q (.int (((Builtin.Int.intBits n : Nat) : Int).fdiv 30 + 1)) H
    rw [e]
    exact q
def spGreatest (K : PySem.W.Frag) : Sp := fun vs H Q _ => ∃ (a : Addr) (m : Nat) (xs : List Int), vs = [.ref a] ∧ Sq K H a (xs.map V.int) ∧ xs ≠ [] ∧ xs.length ≤ 100000 ∧ (∀ x ∈ xs, x.natAbs < 2 ^ m) ∧
  ∀ H' (g : Nat), Same H H' → (∀ x ∈ xs, x.natAbs < 2 ^ g) → g ≤ m → Q (.int g) H'
theorem ok__greatest_bits (T : Txt K mg) : FnOk P w K mg base CX0 1 (He.fAd K ("_greatest_bits", none)) T.d__greatest_bits ["entries"] (spGreatest K) := by
  refine FunD.ok T.fn__greatest_bits sc__greatest_bits (fun vs H Q E h => ?_) (fun cdv A outer s H vs Q E hr h => ?_)
  · obtain ⟨a, m, xs, rfl, _⟩ := h
    rfl
  · obtain ⟨a, m, xs, rfl, ha, hne, lx, hm, q⟩ := h
    refine ⟨_, PSs.nox (pss_one (ps_ret (pe_callB (call_maxK (K := K) rfl) (by rfl) T.z_max (by decide +kernel) (pa_cons (pe_lcN (own := [("worth", 1)]) rfl sc__greatest_bits.nd (pi_sqB (K := K) (pv 0)) (blkOk_by (own := [("worth", 1)]) (N := ["entries", "worth"]) (sc := defScope s__greatest_bits) (by decide +kernel)) (fun _ _ _ _ _ => (pg_name (i := 1) sc__greatest_bits.nd rfl (Or.inl rfl))) (fun _ _ _ _ _ => pts_nil) (fun _ _ _ _ _ => (pe_bits (pv 1)))) pa_nil)))), ?_⟩
    have step : ∀ (i : Nat) (u : Int), xs[i]? = some u → (xs.map fun u => ((Builtin.Int.intBits u : Nat) : Int))[i]? = some ((Builtin.Int.intBits u : Nat) : Int) := fun i u hu => by rw [List.getElem?_map, hu] <;> rfl
    obtain ⟨b, hb⟩ := Sq.cases ha
    refine ⟨_, rfl, b, a, _, rfl, hb, fun D H1 hD s1 e1 => ?_⟩
    refine lcN_at (K := K) walk_Q (fun i acc H' => Same H H' ∧ acc = ((xs.map fun u => ((Builtin.Int.intBits u : Nat) : Int)).take i).map V.int) ⟨s1, rfl⟩ (fun i acc H' _ z _ => hb.same z.1) ?_ ?_
    · rintro i x acc H2 hx ⟨s2, rfl⟩ eD
      obtain ⟨u, hu, rfl⟩ := map_get hx
      refine ⟨rfl, yesT ⟨_, rfl, _, rfl, eD, ?_, fun H3 b3 e3 => ⟨s2.but hD b3, ?_⟩⟩⟩
      · rw [List.length_map, List.length_take, List.length_map]
        exact len_big (by omega)
      · rw [take_snoc (step i u hu), List.map_append]
        rfl
    rintro acc H2 ⟨s2, rfl⟩ eD
    rw [List.take_of_length_le (by simp)] at eD
    refine ⟨D, _, rfl, SqL.of eD, by rw [List.length_map]; exact List.length_pos_iff.mpr hne, fun g hg1 hg2 => ?_⟩
    obtain ⟨u, hu, rfl⟩ := List.mem_map.mp hg1
    exact q H2 _ s2 (fun x hx => Nat.lt_of_lt_of_le (bits_lt x) (Nat.pow_le_pow_right (by decide) (by have := hg2 _ (List.mem_map.mpr ⟨x, hx, rfl⟩); omega))) (PyProof.Rows.intBits_le (hm u hu))
def spPWidth (K : PySem.W.Frag) : Sp := fun vs H Q _ => ∃ (a b : Addr) (m1 m2 : Nat) (xs ys : List Int), vs = [.ref a, .ref b] ∧ Sq K H a (xs.map V.int) ∧ Sq K H b (ys.map V.int) ∧ xs ≠ [] ∧ ys ≠ [] ∧ xs.length ≤ 100000 ∧ ys.length ≤ 100000 ∧
  (∀ x ∈ xs, x.natAbs < 2 ^ m1) ∧ (∀ y ∈ ys, y.natAbs < 2 ^ m2) ∧ ∀ H' (g1 g2 pb : Nat), Same H H' → (∀ x ∈ xs, x.natAbs < 2 ^ g1) → (∀ y ∈ ys, y.natAbs < 2 ^ g2) → g1 ≤ m1 → g2 ≤ m2 → min xs.length ys.length < 2 ^ pb → pb ≤ 17 → Q (.int ((g1 + g2 + pb + 1 : Nat) : Int)) H'
theorem ok__product_width (T : Txt K mg) : FnOk P w K mg base CX0 2 (He.fAd K ("_product_width", none)) T.d__product_width ["one", "other"] (spPWidth K) := by
  refine FunD.ok T.fn__product_width sc__product_width (fun vs H Q E h => ?_) (fun cdv A outer s H vs Q E hr h => ?_)
  · obtain ⟨a, b, m1, m2, xs, ys, rfl, _⟩ := h
    rfl
  · obtain ⟨a, b, m1, m2, xs, ys, rfl, ha, hb, nx, ny, lx, ly, h1, h2, q⟩ := h
    refine ⟨_, PSs.nox (pss_cons (ps_set (i := 2) sc__product_width.nd rfl (Or.inl rfl) (pe_callB (call_min2 rfl) (by rfl) T.z_min (by decide +kernel) (pa_cons (pe_callB (call_lenK (K := K)) (by rfl) T.z_len PySem.boot_len (pa_cons (pv 0) pa_nil)) (pa_cons (pe_callB (call_lenK (K := K)) (by rfl) T.z_len PySem.boot_len (pa_cons (pv 1) pa_nil)) pa_nil))))
  (pss_one (ps_ret (pe_op op_add (pe_op op_add (pe_op op_add (pe_call (ok__greatest_bits T) (hr.mono (by decide)) (by rfl) T.m__greatest_bits T.fn__greatest_bits.kp T.b__greatest_bits .nil pass0 (pa_cons (pv 0) pa_nil)) (pe_call (ok__greatest_bits T) (hr.mono (by decide)) (by rfl) T.m__greatest_bits T.fn__greatest_bits.kp T.b__greatest_bits .nil pass0 (pa_cons (pv 1) pa_nil))) (pe_bits (pv 2))) pe_int)))), ?_⟩
    refine ⟨_, rfl, _, _, rfl, ha, _, rfl, _, _, rfl, hb, _, _, rfl, ?_⟩
    obtain ⟨pr, hpr, hpr2⟩ : ∃ pr : Nat, (if (((ys.map V.int).length : Nat) : Int) < ((xs.map V.int).length : Nat) then (((ys.map V.int).length : Nat) : Int) else ((xs.map V.int).length : Nat)) = (pr : Int) ∧ pr = min xs.length ys.length := by
      rw [List.length_map, List.length_map]
      split
      · exact ⟨ys.length, rfl, by omega⟩
      · exact ⟨xs.length, rfl, by omega⟩
    rw [hpr]
    refine ⟨_, rfl, a, m1, xs, rfl, ha, nx, lx, h1, fun H1 g1 s1 q1 r1 => ?_⟩
    refine ⟨_, rfl, b, m2, ys, rfl, s1.sq hb, ny, ly, h2, fun H2 g2 s2 q2 r2 => ?_⟩
    refine ⟨_, _, rfl, rfl, _, rfl, _, rfl, _, _, rfl, rfl, _, _, rfl, rfl, ?_⟩
    have hb1 := bits_lt ((pr : Nat) : Int)
    have hb2 : Builtin.Int.intBits ((pr : Nat) : Int) ≤ 17 := PyProof.Rows.intBits_le (k := 17) (by
      show pr < 2 ^ 17
      have : (2 : Nat) ^ 17 = 131072 := by decide
      omega)
    exact q H2 g1 g2 (Builtin.Int.intBits ((pr : Nat) : Int)) (s1.trans s2) q1 q2 r1 r2 (by rw [← hpr2]; exact hb1) hb2
def spSteps : Sp := fun vs H Q _ => ∃ (i j : Int), vs = [.int i, .int j] ∧ 1 ≤ i ∧ i < 1000000000 ∧ 1 ≤ j ∧ j < 1000000000 ∧ ∀ z, Q (.int z) H
theorem ok__product_steps (T : Txt K mg) : FnOk P w K mg base CX0 1 (He.fAd K ("_product_steps", none)) T.d__product_steps ["one", "other"] spSteps := by
  refine FunD.ok T.fn__product_steps sc__product_steps (fun vs H Q E h => ?_) (fun cdv A outer s H vs Q E hr h => ?_)
  · obtain ⟨i, j, rfl, _⟩ := h
    rfl
  · obtain ⟨i, j, rfl, i1, i2, j1, j2, q⟩ := h
    refine ⟨_, PSs.nox (pss_cons (ps_set (i := 2) sc__product_steps.nd rfl (Or.inl rfl) (pe_callB (call_min2 rfl) (by rfl) T.z_min (by decide +kernel) (pa_cons (pv 0) (pa_cons (pv 1) pa_nil))))
  (pss_cons (ps_set (i := 3) sc__product_steps.nd rfl (Or.inl rfl) (pe_op op_add (pe_op op_fdivN (pe_callB (call_max2 rfl) (by rfl) T.z_max (by decide +kernel) (pa_cons (pv 0) (pa_cons (pv 1) pa_nil))) (pv 2)) pe_int))
  (pss_cons (ps_while PassesOwn.never (pt_cmpR op_gt (pv 2) (pe_glob (v := .int 70) rfl T.g__SHORT_WORDS.choose_spec ⟨_, rfl⟩) (nomark _))
  (pss_cons (ps_set (i := 2) sc__product_steps.nd rfl (Or.inl rfl) (pe_op op_fdivN (pe_op op_add (pv 2) pe_int) pe_int))
  (pss_one (ps_set (i := 3) sc__product_steps.nd rfl (Or.inl rfl) (pe_op op_mul pe_int (pv 3))))))
  (pss_one (ps_ret (pe_op op_mul (pe_op op_mul (pv 3) (pv 2)) (pv 2))))))), ?_⟩
    refine ⟨_, rfl, _, rfl, _, _, rfl, ?_⟩
    generalize hs : (if j < i then j else i) = s
    have hs1 : 1 ≤ s ∧ s < 1000000000 := by
      rw [← hs]
      split <;> omega
    refine ⟨_, rfl, _, rfl, _, _, rfl, _, rfl, _, _, rfl, rfl, ⟨by omega, by omega⟩, _, _, rfl, rfl, ?_⟩
    refine ⟨fun μ σ H' => ∃ s t : Int, σ = [some (.int i), some (.int j), some (.int s), some (.int t)] ∧ H' = H ∧ 1 ≤ s ∧ s < 1000000000 ∧ μ = s.toNat, ⟨_, s, _, rfl, rfl, hs1.1, hs1.2, rfl⟩, ?_⟩
    rintro μ σ H' ⟨s, t, rfl, rfl, k1, k2, rfl⟩
    refine ⟨_, rfl, _, _, rfl, rfl, _, rfl, iteB (fun h => ?_) fun h => ?_⟩
    · refine ⟨fun σ' H'' => ∃ m', m' < s.toNat ∧ ∃ s t : Int, σ' = [some (.int i), some (.int j), some (.int s), some (.int t)] ∧ H'' = H' ∧ 1 ≤ s ∧ s < 1000000000 ∧ m' = s.toNat, fun _ _ z => z, ?_⟩
      have e : (s + 1).fdiv 2 = (s + 1) / 2 := Int.fdiv_eq_ediv_of_nonneg _ (by omega)
      refine ⟨_, rfl, _, _, rfl, rfl, _, _, rfl, rfl, ⟨by omega, by omega⟩, ?_⟩
      refine ⟨_, rfl, _, _, rfl, rfl, .inl ⟨by omega, by omega⟩, _, ?_, (s + 1).fdiv 2, 3 * t, rfl, rfl, ?_, ?_, rfl⟩ <;> rw [e] <;> omega
    · exact ⟨_, rfl, _, rfl, _, _, rfl, rfl, .inr ⟨by omega, by omega⟩, _, rfl, _, _, rfl, rfl, .inr ⟨by omega, by omega⟩, q _⟩
theorem iteNB {c A B : Prop} [Decidable c] (h1 : ¬ c → A) (h2 : c → B) : if (!decide c) = true then A else B := by
  by_cases h : c
  · rw [decide_eq_true h]
    exact iteF (h2 h)
  · rw [decide_eq_false h]
    exact iteT (h1 h)
def spPays (K : PySem.W.Frag) : Sp := fun vs H Q _ => ∃ (a b : Addr) (m1 m2 : Nat) (xs ys : List Int), vs = [.ref a, .ref b] ∧ Sq K H a (xs.map V.int) ∧ Sq K H b (ys.map V.int) ∧ xs ≠ [] ∧ ys ≠ [] ∧
  (∀ x ∈ xs, x.natAbs < 2 ^ m1) ∧ (∀ y ∈ ys, y.natAbs < 2 ^ m2) ∧ (m1 + m2 + 20) * (xs.length + ys.length) ≤ 900000 ∧ ∀ H' c, Same H H' → Q (.bl c) H'
theorem ok__packing_pays (T : Txt K mg) : FnOk P w K mg base CX0 3 (He.fAd K ("_packing_pays", none)) T.d__packing_pays ["one", "other"] (spPays K) := by
  refine FunD.ok T.fn__packing_pays sc__packing_pays (fun vs H Q E h => ?_) (fun cdv A outer s H vs Q E hr h => ?_)
  · obtain ⟨a, b, m1, m2, xs, ys, rfl, _⟩ := h
    rfl
  · obtain ⟨a, b, m1, m2, xs, ys, rfl, ha, hb, nx, ny, h1, h2, hB, q⟩ := h
    refine ⟨_, PSs.nox (pss_cons (ps_setLcN (i := 2) (own := [("worth", 3)]) rfl sc__packing_pays.nd rfl rfl (sw_true rfl rfl rfl (by decide +kernel)) (pi_sqB (K := K) (pv 0)) (blkOk_by (own := [("worth", 3)]) (N := ["one", "other", "first", "worth", "second", "by_pairs", "packing", "width", "words", "entries"]) (sc := defScope s__packing_pays) (by decide +kernel)) (fun _ _ _ _ _ => (pg_name (i := 3) sc__packing_pays.nd rfl (Or.inl rfl))) (fun _ _ _ _ _ => (pts_one (pt_cmpR op_ne (pv 3) pe_int (nomark _)))) (fun _ _ _ _ _ => (pe_call (ok__words T) (hr.mono (by decide)) (by rfl) T.m__words T.fn__words.kp T.b__words .nil pass0 (pa_cons (pv 3) pa_nil))))
  (pss_cons (ps_setLcN (i := 4) (own := [("worth", 3)]) rfl sc__packing_pays.nd rfl rfl (sw_true rfl rfl rfl (by decide +kernel)) (pi_sqB (K := K) (pv 1)) (blkOk_by (own := [("worth", 3)]) (N := ["one", "other", "first", "worth", "second", "by_pairs", "packing", "width", "words", "entries"]) (sc := defScope s__packing_pays) (by decide +kernel)) (fun _ _ _ _ _ => (pg_name (i := 3) sc__packing_pays.nd rfl (Or.inl rfl))) (fun _ _ _ _ _ => (pts_one (pt_cmpR op_ne (pv 3) pe_int (nomark _)))) (fun _ _ _ _ _ => (pe_call (ok__words T) (hr.mono (by decide)) (by rfl) T.m__words T.fn__words.kp T.b__words .nil pass0 (pa_cons (pv 3) pa_nil))))
  (pss_cons (ps_set (i := 5) sc__packing_pays.nd rfl (Or.inl rfl) (pe_op op_add (pe_op op_mul (pe_op op_mul pe_int (pe_callB (call_lenK (K := K)) (by rfl) T.z_len PySem.boot_len (pa_cons (pv 2) pa_nil))) (pe_callB (call_lenK (K := K)) (by rfl) T.z_len PySem.boot_len (pa_cons (pv 4) pa_nil))) (pe_op op_mul (pe_callB (call_sumK (K := K) rfl) (by rfl) T.z_sum (by decide +kernel) (pa_cons (pv 2) pa_nil)) (pe_callB (call_sumK (K := K) rfl) (by rfl) T.z_sum (by decide +kernel) (pa_cons (pv 4) pa_nil)))))
  (pss_cons (ps_set (i := 6) sc__packing_pays.nd rfl (Or.inl rfl) (pe_op op_mul pe_int (pe_op op_add (pe_callB (call_lenK (K := K)) (by rfl) T.z_len PySem.boot_len (pa_cons (pv 0) pa_nil)) (pe_callB (call_lenK (K := K)) (by rfl) T.z_len PySem.boot_len (pa_cons (pv 1) pa_nil)))))
  (pss_cons (ps_if (pt_cmpR op_le (pv 5) (pv 6) (nomark _))
  (pss_one (ps_ret pe_bl))
  pss_nil)
  (pss_cons (ps_set (i := 7) sc__packing_pays.nd rfl (Or.inr rfl) (pe_call (ok__product_width T) (hr.mono (by decide)) (by rfl) T.m__product_width T.fn__product_width.kp T.b__product_width .nil pass0 (pa_cons (pv 0) (pa_cons (pv 1) pa_nil))))
  (pss_cons (ps_setLcN (i := 8) (own := [("entries", 9)]) rfl sc__packing_pays.nd rfl rfl (sw_true rfl rfl rfl (by decide +kernel)) (pi_tupK (K := K) (pe_tupK (K := K) (pa_cons (pv 0) (pa_cons (pv 1) pa_nil)))) (blkOk_by (own := [("entries", 9)]) (N := ["one", "other", "first", "worth", "second", "by_pairs", "packing", "width", "words", "entries"]) (sc := defScope s__packing_pays) (by decide +kernel)) (fun _ _ _ _ _ => (pg_name (i := 9) sc__packing_pays.nd rfl (Or.inl rfl))) (fun _ _ _ _ _ => pts_nil) (fun _ _ _ _ _ => (pe_op op_add (pe_op op_fdivN (pe_op op_mul (pe_callB (call_lenK (K := K)) (by rfl) T.z_len PySem.boot_len (pa_cons (pv 9) pa_nil)) (pv 7)) pe_int) pe_int)))
  (pss_one (ps_ret (pe_cmpR op_gt (pv 5) (pe_op op_add (pv 6) (pe_call (ok__product_steps T) (hr.mono (by decide)) (by rfl) T.m__product_steps T.fn__product_steps.kp T.b__product_steps .nil pass0 (pa_cons (pe_ix (ix_listK (K := K)) (pv 8) pe_int (fun _ _ => rfl)) (pa_cons (pe_ix (ix_listK (K := K)) (pv 8) pe_int (fun _ _ => rfl)) pa_nil)))) (nomark _))))))))))), ?_⟩
    have px : 1 ≤ xs.length := List.length_pos_iff.mpr nx
    have py : 1 ≤ ys.length := List.length_pos_iff.mpr ny
    have hB1 : (m1 + m2 + 20) * 2 ≤ 900000 := Nat.le_trans (Nat.mul_le_mul_left _ (by omega)) hB
    have hB2 : 20 * (xs.length + ys.length) ≤ 900000 := Nat.le_trans (Nat.mul_le_mul_right _ (by omega)) hB
    have word : ∀ (m : Nat) (v : Int), v.natAbs < 2 ^ m → m ≤ 900000 → (0 : Int) ≤ ((Builtin.Int.intBits v / 30 + 1 : Nat) : Int) ∧ ((Builtin.Int.intBits v / 30 + 1 : Nat) : Int) ≤ 40000 := fun m v hv hm => by
      have := PyProof.Rows.intBits_le hv
      omega
    -- first
    obtain ⟨ba, hba⟩ := Sq.cases ha
    refine ⟨_, rfl, ba, a, _, rfl, hba, fun D H1 hD s1 e1 => ?_⟩
    refine lcN_at (K := K) walk_Q (fun i acc H' => Same H H' ∧ ∃ ws : List Int, acc = ws.map V.int ∧ ws.length ≤ i ∧ i ≤ xs.length ∧ ∀ x ∈ ws, 0 ≤ x ∧ x ≤ 40000) ⟨s1, [], rfl, Nat.le_refl _, Nat.zero_le _, fun x hx => by simp at hx⟩ (fun i acc H' _ z _ => hba.same z.1) ?_ ?_
    · rintro i x acc H2 hx ⟨s2, ws, rfl, hl, hix, hws⟩ eD
      obtain ⟨v, hv, rfl⟩ := map_get hx
      have hi : i < xs.length := (List.getElem?_eq_some_iff.mp hv).1
      refine ⟨rfl, _, rfl, rfl, _, rfl, iteNB (fun _ => ?_) fun _ => ?_⟩
      · refine ⟨_, rfl, _, rfl, eD, ?_, fun H3 b3 e3 => ⟨s2.but hD b3, ws ++ [_], by rw [List.map_append]; rfl, by rw [List.length_append]; exact Nat.succ_le_succ hl, hi, fun x hx => ?_⟩⟩
        · rw [List.length_map]
          exact len_big (by omega)
        · rcases List.mem_append.mp hx with h | h
          · exact hws x h
          · rw [List.mem_singleton.mp h]
            exact word m1 v (h1 v (List.mem_of_getElem? hv)) (by omega)
      · exact ⟨eD, s2, ws, rfl, by omega, hi, hws⟩
    rintro acc H2 ⟨s2, ws, rfl, hl, _, hws⟩ eD
    rw [List.length_map] at hl
    -- second
    obtain ⟨bb, hbb⟩ := Sq.cases (s2.sq hb)
    refine ⟨_, rfl, bb, b, _, rfl, hbb, fun D2 H3 hD2 s3 e3 => ?_⟩
    refine lcN_at (K := K) walk_Q (fun i acc H' => Same H2 H' ∧ ∃ ws : List Int, acc = ws.map V.int ∧ ws.length ≤ i ∧ i ≤ ys.length ∧ ∀ x ∈ ws, 0 ≤ x ∧ x ≤ 40000) ⟨s3, [], rfl, Nat.le_refl _, Nat.zero_le _, fun x hx => by simp at hx⟩ (fun i acc H' _ z _ => hbb.same z.1) ?_ ?_
    · rintro i x acc H4 hx ⟨s4, ws, rfl, hl, hix, hws⟩ eD2
      obtain ⟨v, hv, rfl⟩ := map_get hx
      have hi : i < ys.length := (List.getElem?_eq_some_iff.mp hv).1
      refine ⟨rfl, _, rfl, rfl, _, rfl, iteNB (fun _ => ?_) fun _ => ?_⟩
      · refine ⟨_, rfl, _, rfl, eD2, ?_, fun H5 b5 e5 => ⟨s4.but hD2 b5, ws ++ [_], by rw [List.map_append]; rfl, by rw [List.length_append]; exact Nat.succ_le_succ hl, hi, fun x hx => ?_⟩⟩
        · rw [List.length_map]
          exact len_big (by omega)
        · rcases List.mem_append.mp hx with h | h
          · exact hws x h
          · rw [List.mem_singleton.mp h]
            exact word m2 v (h2 v (List.mem_of_getElem? hv)) (by omega)
      · exact ⟨eD2, s4, ws, rfl, by omega, hi, hws⟩
    rintro acc H4 ⟨s4, vs2, rfl, hl2, _, hvs⟩ eD2
    rw [List.length_map] at hl2
    have eD4 := s4 _ _ eD
    have s04 := s2.trans s4
    obtain ⟨u1, u2⟩ := sum_le hws
    obtain ⟨t1, t2⟩ := sum_le hvs
    have c1 : ws.sum < 2 ^ 64 := by
      have : (2 : Int) ^ 64 = 18446744073709551616 := by decide
      omega
    refine ⟨_, rfl, _, _, rfl, .inl (SqL.of eD4), _, _, rfl, rfl, .inl ⟨by decide, by decide⟩, ?_⟩
    refine ⟨_, rfl, _, _, rfl, .inl (SqL.of eD2), _, _, rfl, rfl, .inr ⟨?_, ?_⟩, ?_⟩
    · rw [List.length_map]
      omega
    · rw [List.length_map]
      omega
    refine ⟨_, rfl, _, _, rfl, SqL.of eD4, _, rfl, _, _, rfl, SqL.of eD2, _, _, rfl, rfl, .inl ⟨by omega, c1⟩, _, _, rfl, rfl, ?_⟩
    refine ⟨_, rfl, _, _, rfl, s04.sq ha, _, rfl, _, _, rfl, s04.sq hb, _, _, rfl, rfl, _, _, rfl, rfl, .inl ⟨by decide, by decide⟩, ?_⟩
    refine ⟨_, rfl, _, rfl, _, _, rfl, rfl, _, rfl, iteB (fun _ => q _ _ s04) fun _ => ?_⟩
    refine ⟨_, rfl, _, rfl, a, b, m1, m2, xs, ys, rfl, s04.sq ha, s04.sq hb, nx, ny, by omega, by omega, h1, h2, fun H5 g1 g2 pb s5 _ _ r1 r2 _ r3 => ?_⟩
    have s05 := s04.trans s5
    have hw1 : (xs.length + ys.length) * (g1 + g2 + pb + 1) ≤ 900000 := by
      rw [Nat.mul_comm]
      exact Nat.le_trans (Nat.mul_le_mul_right _ (by omega)) hB
    refine ⟨_, rfl, _, rfl, by show 2 ≤ sizeLine; exact small (by omega), fun H6 tp s6 h6 => ⟨tp, rfl, ⟨_, h6⟩, fun D3 H7 hD3 s7 e7 => ?_⟩⟩
    have s06 := s05.trans s6
    refine lcN_tup (xs := [V.ref a, V.ref b]) (fun i acc H' => Same H6 H' ∧ ∃ ws : List Int, acc = ws.map V.int ∧ ws.length = i ∧ ∀ x ∈ ws, 1 ≤ x ∧ x < 1000000000) ⟨s7, [], rfl, rfl, fun x hx => by simp at hx⟩ (fun i acc H' _ z _ => z.1.seqT h6) ?_ ?_
    · rintro i x acc H8 hx ⟨s8, ws3, rfl, hl3, hws3⟩ eD3
      have hi : i < 2 := (List.getElem?_eq_some_iff.mp hx).1
      obtain ⟨c, zs, rfl, hz, lz⟩ : ∃ (c : Addr) (zs : List Int), x = .ref c ∧ Sq K H8 c (zs.map V.int) ∧ zs.length ≤ xs.length + ys.length := by
        rcases (show i = 0 ∨ i = 1 by omega) with e | e <;> subst e
        · cases hx
          exact ⟨a, xs, rfl, (s06.trans s8).sq ha, by omega⟩
        · cases hx
          exact ⟨b, ys, rfl, (s06.trans s8).sq hb, by omega⟩
      have hzw : zs.length * (g1 + g2 + pb + 1) ≤ 900000 := Nat.le_trans (Nat.mul_le_mul_right _ lz) hw1
      refine ⟨rfl, yesT ⟨_, rfl, _, _, rfl, hz, _, rfl, _, _, rfl, rfl, .inl ⟨?_, ?_⟩, _, _, rfl, rfl, ⟨by omega, by omega⟩, _, _, rfl, rfl, eD3, ?_, fun H9 b9 e9 => ⟨s8.but hD3 b9, ws3 ++ [_], by rw [List.map_append]; rfl, by rw [List.length_append, hl3]; rfl, fun y hy => ?_⟩⟩⟩
      · omega
      · rw [List.length_map]
        omega
      · rw [List.length_map]
        exact len_big (by omega)
      · rcases List.mem_append.mp hy with h | h
        · exact hws3 y h
        · rw [List.mem_singleton.mp h, List.length_map]
          have e : ((zs.length : Nat) : Int) * ((g1 + g2 + pb + 1 : Nat) : Int) = ((zs.length * (g1 + g2 + pb + 1) : Nat) : Int) := (Int.natCast_mul _ _).symm
          rw [e, Int.fdiv_eq_ediv_of_nonneg _ (by omega)]
          omega
    rintro acc H8 ⟨s8, ws3, rfl, hl3, hws3⟩ eD3
    have hl3 : ws3.length = 2 := hl3
    have g0 : ∀ n, n < 2 → 1 ≤ ws3.getD n 0 ∧ ws3.getD n 0 < 1000000000 := fun n hn => by
      rw [List.getD_eq_getElem?_getD, List.getElem?_eq_getElem (by omega)]
      exact hws3 _ (List.getElem_mem _)
    refine ⟨_, rfl, _, rfl, _, rfl, _, _, _, _, rfl, rfl, SqL.of eD3, at_ints (n := 0) rfl (by omega), ?_⟩
    refine ⟨_, rfl, _, _, _, _, rfl, rfl, SqL.of eD3, at_ints (n := 1) rfl (by omega), ?_⟩
    exact ⟨_, _, rfl, (g0 0 (by omega)).1, (g0 0 (by omega)).2, (g0 1 (by omega)).1, (g0 1 (by omega)).2, fun z => ⟨_, _, rfl, rfl, _, _, rfl, rfl, q _ _ (s06.trans s8)⟩⟩
def spByPairs (K : PySem.W.Frag) : Sp := fun vs H Q _ => ∃ (a b : Addr) (m1 m2 : Nat) (xs ys : List Int), vs = [.ref a, .ref b] ∧ Sq K H a (xs.map V.int) ∧ Sq K H b (ys.map V.int) ∧ xs ≠ [] ∧ ys ≠ [] ∧ xs.length ≤ 100000 ∧ ys.length ≤ 100000 ∧
  (∀ x ∈ xs, x.natAbs < 2 ^ m1) ∧ (∀ y ∈ ys, y.natAbs < 2 ^ m2) ∧ m1 + m2 ≤ 900000 ∧ ∀ H' p, Same H H' → H' p = some (.lst ((mulP xs ys).map V.int)) → Q (.ref p) H'
theorem SqT.but' {K : PySem.W.Frag} {H H' : Hp} {t D : Addr} {xs ys : List V} (h : SqT K H t xs) (e : H D = some (.lst ys)) (b : SameBut D H H') : SqT K H' t xs := by
  rcases h with h | h
  · refine .inl ?_
    have ne : t ≠ D := by
      rintro rfl
      rcases h with h | ⟨o, h⟩
      · rw [e] at h
        cases h
      · rw [e] at h
        cases h
    rcases h with h | ⟨o, h⟩
    · exact .inl (b _ _ ne h)
    · exact .inr ⟨o, b _ _ ne h⟩
  · exact .inr h
theorem ixN_nat {n j : Nat} (h : j < n) : ixN n (j : Int) = some j := by
  unfold ixN
  rw [if_pos (Int.natCast_nonneg j), if_pos (by omega), Int.toNat_natCast]
theorem log_le {v : Int} {m : Nat} (h : v.natAbs < 2 ^ m) : v.natAbs.log2 ≤ m := by
  by_cases z : v.natAbs = 0
  · rw [z]
    exact Nat.zero_le _
  · exact Nat.le_of_lt ((Nat.log2_lt z).mpr h)
theorem cut_last (xs : List V) : cutV xs none (some (-1)) = xs.take (xs.length - 1) := by
  unfold cutV
  have e : HT.sIx xs.length xs.length (some (-1)) = xs.length - 1 := by
    show (if (-1 : Int) < 0 then (-1 + (xs.length : Int)).toNat else min (-1 : Int).toNat xs.length) = _
    rw [if_pos (by decide)]
    omega
  rw [e]
  show (xs.drop 0).take (xs.length - 1 - 0) = _
  rw [List.drop_zero, Nat.sub_zero]
def pl (ps : List (Nat × Int)) : List (List Int) := ps.map fun p => [(p.1 : Int), p.2]
theorem pl_get {ps : List (Nat × Int)} {i : Nat} {l : List Int} (h : (pl ps)[i]? = some l) : ∃ p, ps[i]? = some p ∧ l = [(p.1 : Int), p.2] := by
  unfold pl at h
  rw [List.getElem?_map] at h
  cases e : ps[i]? with
  | none => rw [e] at h; cases h
  | some p => rw [e] at h; exact ⟨p, rfl, (Option.some.inj h).symm⟩
theorem ok__product_by_pairs (T : Txt K mg) : FnOk P w K mg base CX0 1 (He.fAd K ("_product_by_pairs", none)) T.d__product_by_pairs ["one", "other"] (spByPairs K) := by
  refine FunD.ok T.fn__product_by_pairs sc__product_by_pairs (fun vs H Q E h => ?_) (fun cdv A outer s H vs Q E hr h => ?_)
  · obtain ⟨a, b, m1, m2, xs, ys, rfl, _⟩ := h
    rfl
  · obtain ⟨a, b, m1, m2, xs, ys, rfl, ha, hb, nx, ny, lx, ly, h1, h2, hm, q⟩ := h
    refine ⟨_, PSs.nox (pss_cons (ps_setLcN (i := 2) (own := [("lane", 3), ("worth", 4)]) rfl sc__product_by_pairs.nd rfl rfl (sw_true rfl rfl rfl (by decide +kernel)) (pi_enumQ (K := K) (by rfl) T.z_enumerate (pa_cons (pv 1) pa_nil)) (blkOk_by (own := [("lane", 3), ("worth", 4)]) (N := ["one", "other", "second", "lane", "worth", "sums", "_", "low", "factor", "high"]) (sc := defScope s__product_by_pairs) (by decide +kernel)) (fun _ _ _ _ _ => (pg_pair (K := K) (i := 3) (j := 4) rfl sc__product_by_pairs.nd rfl rfl (Or.inl rfl) (Or.inl rfl))) (fun _ _ _ _ _ => (pts_one (pt_cmpR op_ne (pv 4) pe_int (nomark _)))) (fun _ _ _ _ _ => (pe_tupK (K := K) (pa_cons (pv 3) (pa_cons (pv 4) pa_nil)))))
  (pss_cons (ps_setLcN (i := 5) (own := [("_", 6)]) rfl sc__product_by_pairs.nd rfl rfl (sw_true rfl rfl rfl (by decide +kernel)) (pi_range1 rfl T.z_range (pa_cons (pe_op op_add (pe_callB (call_lenK (K := K)) (by rfl) T.z_len PySem.boot_len (pa_cons (pv 0) pa_nil)) (pe_callB (call_lenK (K := K)) (by rfl) T.z_len PySem.boot_len (pa_cons (pv 1) pa_nil))) pa_nil)) (blkOk_by (own := [("_", 6)]) (N := ["one", "other", "second", "lane", "worth", "sums", "_", "low", "factor", "high"]) (sc := defScope s__product_by_pairs) (by decide +kernel)) (fun _ _ _ _ _ => (pg_name (i := 6) sc__product_by_pairs.nd rfl (Or.inl rfl))) (fun _ _ _ _ _ => pts_nil) (fun _ _ _ _ _ => pe_int))
  (pss_cons (ps_for PassesOwn.never rfl (pi_enumQ (K := K) (by rfl) T.z_enumerate (pa_cons (pv 0) pa_nil)) (pg_pair (K := K) (i := 7) (j := 8) rfl sc__product_by_pairs.nd rfl rfl (Or.inl rfl) (Or.inl rfl))
  (pss_one (ps_ifJ (pt_cmpR op_ne (pv 8) pe_int (nomark _))
  (pss_one (ps_for PassesOwn.never rfl (pi_listK (K := K) (pv 2)) (pg_pair (K := K) (i := 9) (j := 4) rfl sc__product_by_pairs.nd rfl rfl (Or.inl rfl) (Or.inl rfl))
  (pss_one (ps_asg (pe_op op_add (pe_ix (ix_listK (K := K)) (pv 5) (pe_op op_add (pv 7) (pv 9)) (fun _ _ => rfl)) (pe_op op_mulW (pv 8) (pv 4))) (pg_sub (pv 5) (pe_op op_add (pv 7) (pv 9)) set_list)))))
  pss_nil)))
  (pss_one (ps_ret (pe_slice (sl_listK (K := K)) (pv 5) po_none (po_some (pe_un un_neg pe_int)))))))), ?_⟩
    obtain ⟨bb, hbb⟩ := Sq.cases hb
    -- second
    refine ⟨_, rfl, bb, b, _, rfl, hbb, fun D H1 hD s1 e1 => ?_⟩
    refine lcN_pair (K := K) (walk_enumB (xs := ys.map V.int)) (fun i acc H' => Same H H' ∧ ∃ ts : List Addr, acc = ts.map V.ref ∧ LsAt (fun t l => SqT K H' t (l.map V.int)) ts (pl (prs ys i))) ⟨s1, [], rfl, LsAt.nil⟩ (fun i acc H' _ z _ => hbb.same z.1) ?_ ?_
    · rintro i x y acc H2 H3 t hx hy hi ⟨s2, ts, rfl, hL⟩ eD s3 hT
      cases hx
      obtain ⟨v, hv, rfl⟩ := map_get hy
      have hgd : ys.getD i 0 = v := by rw [List.getD_eq_getElem?_getD, hv] <;> rfl
      have hlen : ts.length ≤ i := by
        have e := hL.1
        have e2 := prs_length ys i
        unfold pl at e
        rw [List.length_map] at e
        omega
      have hiy : i < ys.length := by rw [List.length_map] at hi; exact hi
      refine g_pair hT ⟨rfl, _, rfl, rfl, _, rfl, iteNB (fun hne => ?_) fun heq => ?_⟩
      · refine ⟨_, rfl, _, rfl, by show 2 ≤ sizeLine; exact small (by omega), fun H4 u s4 hu => ?_⟩
        have eD4 := s4 _ _ (s3 _ _ eD)
        refine ⟨eD4, by rw [List.length_map]; exact len_big (by omega), fun H5 b5 e5 => ⟨(s2.trans (s3.trans s4)).but hD b5, ts ++ [u], by rw [List.map_append]; rfl, ?_⟩⟩
        have hp : pl (prs ys (i + 1)) = pl (prs ys i) ++ [[(i : Int), v]] := by
          rw [prs_succ, hgd, if_pos (fun z => hne (by rw [z]))]
          unfold pl
          rw [List.map_append]
          rfl
        rw [hp]
        exact (hL.mono fun t l h => SqT.but' (s4.seqT (s3.seqT h)) eD4 b5).snoc (SqT.but' hu eD4 b5)
      · have hv0 : v = 0 := V.int.inj heq
        have hp : prs ys (i + 1) = prs ys i := by
          rw [prs_succ, hgd, hv0, if_neg (by simp)]
          exact List.append_nil _
        refine ⟨s3 _ _ eD, s2.trans s3, ts, rfl, ?_⟩
        rw [hp]
        exact hL.mono fun t l h => s3.seqT h
    rintro acc H2 ⟨s2, ts, rfl, hL⟩ eD
    rw [List.length_map] at hL
    -- sums
    refine ⟨_, rfl, _, _, rfl, s2.sq ha, _, rfl, _, _, rfl, s2.sq hb, _, _, rfl, rfl, ?_⟩
    rw [List.length_map, List.length_map]
    refine ⟨_, rfl, by omega, by omega, fun S H3 hS s3 e3 => ?_⟩
    refine lcN_range (fun i acc H' => Same H2 H' ∧ acc = (List.replicate i (0 : Int)).map V.int) ⟨s3, rfl⟩ ?_ ?_
    · rintro i acc H4 hi ⟨s4, rfl⟩ eS
      refine ⟨rfl, yesT ⟨eS, ?_, fun H5 b5 e5 => ⟨s4.but hS b5, ?_⟩⟩⟩
      · rw [List.length_map, List.length_replicate]
        exact len_big (by omega)
      · rw [List.replicate_succ', List.map_append]
        rfl
    rintro acc H4 ⟨s4, rfl⟩ eS
    have hlen0 : (((xs.length : Nat) : Int) + ((ys.length : Nat) : Int)).toNat = xs.length + ys.length := by omega
    have s04 := s2.trans s4
    -- pair by pair
    obtain ⟨ba, hba⟩ := Sq.cases (s2.sq ha)
    refine ⟨_, rfl, ba, a, _, rfl, hba.same s4, for_pair (K := K) (walk_enumB (xs := xs.map V.int)) (fun i σ H' => ∃ z4 z7 z8 z9, ∃ sums : List Int, σ = [some (.ref a), some (.ref b), some (.ref D), none, z4, some (.ref S), none, z7, z8, z9] ∧ Same H2 H' ∧ H' S = some (.lst (sums.map V.int)) ∧ sums.length = xs.length + ys.length ∧ ∀ n, sums.getD n 0 = conv xs ys i n) ⟨none, none, none, none, _, rfl, s4, eS, by rw [List.length_replicate]; exact hlen0, fun n => ?_⟩ ?_ ?_ ?_⟩
    · show _ = (0 : Int)
      rw [List.getD_eq_getElem?_getD, List.getElem?_replicate]
      split <;> rfl
    · rintro i σ H' _ ⟨z4, z7, z8, z9, sums, rfl, s5, _⟩
      exact hba.same s5
    · rintro i x y σ H5 H6 t hx hy hi ⟨z4, z7, z8, z9, sums, rfl, s5, eS5, hl5, hc5⟩ s6 hT
      cases hx
      obtain ⟨v, hv, rfl⟩ := map_get hy
      have hix : i < xs.length := by rw [List.length_map] at hi; exact hi
      have hgd : xs.getD i 0 = v := by rw [List.getD_eq_getElem?_getD, hv] <;> rfl
      have hvm : v.natAbs < 2 ^ m1 := h1 v (List.mem_of_getElem? hv)
      have eS6 := s6 _ _ eS5
      have s56 := s5.trans s6
      refine g_pair hT ⟨fun σ' H' => ∃ z4 z7 z8 z9, ∃ sums : List Int, σ' = [some (.ref a), some (.ref b), some (.ref D), none, z4, some (.ref S), none, z7, z8, z9] ∧ Same H2 H' ∧ H' S = some (.lst (sums.map V.int)) ∧ sums.length = xs.length + ys.length ∧ ∀ n, sums.getD n 0 = conv xs ys (i + 1) n, ⟨_, rfl, rfl, _, rfl, iteNB (fun hne => ?_) fun heq => ?_⟩, fun _ _ z => z⟩
      · have eD6 := s56 _ _ eD
        have hL6 := hL.mono fun t l h => s56.seqT h
        refine ⟨_, rfl, D, rfl, ⟨_, SqL.of eD6⟩, ?_⟩
        refine for_it (walk_list (xs := ts.map V.ref)) (fun k σ' H' => ∃ z4 z9, ∃ sums : List Int, σ' = [some (.ref a), some (.ref b), some (.ref D), none, z4, some (.ref S), none, some (.int (i : Nat)), some (.int v), z9] ∧ Same H2 H' ∧ H' S = some (.lst (sums.map V.int)) ∧ sums.length = xs.length + ys.length ∧ ∀ n, sums.getD n 0 = conv xs ys i n + inn v i ((prs ys ys.length).take k) n) ⟨z4, z9, sums, rfl, s56, eS6, hl5, fun n => ?_⟩ ?_ ?_ ?_
        · rw [hc5 n]
          unfold inn
          show _ = _ + v * (if i ≤ n then (0 : Int) else 0)
          split <;> rw [Int.mul_zero, Int.add_zero]
        · rintro k σ' H' _ ⟨z4, z9, sums, rfl, s7, _⟩
          exact SqL.of (s7 _ _ eD)
        · rintro k x σ' H7 H8 hk ⟨z4, z9, sums, rfl, s7, eS7, hl7, hc7⟩ ⟨rfl, hx⟩
          obtain ⟨t2, ht2, rfl⟩ := map_getR hx
          obtain ⟨l2, hl2, hT2⟩ := (hL.mono fun t l h => s7.seqT h).get ht2
          obtain ⟨p, hp, rfl⟩ := pl_get hl2
          have hpl : p.1 < ys.length := prs_lt (List.mem_of_getElem? hp)
          have hpy : p.2.natAbs < 2 ^ m2 := by
            have hmem := List.mem_of_getElem? hp
            unfold prs at hmem
            obtain ⟨j, hj, rfl⟩ := List.mem_map.mp (List.mem_filter.mp hmem).1
            exact getD_small (Nat.pow_pos (by decide)) h2 j
          have hidx : i + p.1 < sums.length := by omega
          have eidx : ((i : Nat) : Int) + ((p.1 : Nat) : Int) = ((i + p.1 : Nat) : Int) := (Int.natCast_add _ _).symm
          refine g_pair hT2 ⟨_, rfl, _, rfl, _, rfl, _, _, rfl, rfl, _, _, _, _, rfl, rfl, SqL.of eS7, at_ints (n := i + p.1) eidx hidx, ?_⟩
          refine ⟨_, rfl, _, rfl, _, _, rfl, rfl, ?_, _, _, rfl, rfl, ?_⟩
          · have e1 := log_le hvm
            have e2 := log_le hpy
            show v.natAbs.log2 + p.2.natAbs.log2 < 1000000
            omega
          refine ⟨_, rfl, _, rfl, _, rfl, _, _, rfl, rfl, S, _, _, i + p.1, rfl, rfl, eS7, ?_, ?_⟩
          · rw [List.length_map, eidx]
            exact ixN_nat hidx
          refine ⟨_, _, sums.set (i + p.1) (sums.getD (i + p.1) 0 + v * p.2), rfl, ?_, ?_, by rw [List.length_set]; exact hl7, fun n => ?_⟩
          · exact s7.but hS .of_upd
          · rw [upd_same, List.map_set]
          · rw [set_get hidx, hc7 n, take_snoc hp, inn_snoc, Int.add_assoc]
        · rintro σ' H7 ⟨z4, z9, sums, rfl, s7, eS7, hl7, hc7⟩
          refine ⟨_, _, _, _, sums, rfl, s7, eS7, hl7, fun n => ?_⟩
          have hk : (ts.map V.ref).length = (prs ys ys.length).length := by
            have e := hL.1
            unfold pl at e
            rw [List.length_map] at e
            rw [List.length_map, e]
          rw [hc7 n, hk, List.take_of_length_le (Nat.le_refl _), inn_all]
          show _ = conv xs ys i n + xs.getD i 0 * shl ys i n
          rw [hgd]
      · have hv0 : v = 0 := V.int.inj heq
        refine ⟨_, _, _, _, sums, rfl, s56, eS6, hl5, fun n => ?_⟩
        rw [hc5 n]
        show _ = conv xs ys i n + xs.getD i 0 * shl ys i n
        rw [hgd, hv0, Int.zero_mul, Int.add_zero]
    · rintro σ H5 ⟨z4, z7, z8, z9, sums, rfl, s5, eS5, hl5, hc5⟩
      rw [List.length_map] at hc5
      refine ⟨_, rfl, _, rfl, _, rfl, S, _, rfl, SqL.of eS5, fun H6 p6 s6 n6 e6 => q H6 p6 (s2.trans (s5.trans s6)) ?_⟩
      rw [e6]
      show some (HO.lst (cutV (sums.map V.int) none (some (-1)))) = _
      rw [cut_last, List.length_map, ← List.map_take]
      congr 2
      refine congrArg _ (list_of_get ?_ fun n => ?_)
      · rw [List.length_take, mulP_length, hl5]
        omega
      · rw [mulP_get]
        rcases Nat.lt_or_ge n (sums.length - 1) with h | h
        · rw [List.getD_eq_getElem?_getD, List.getElem?_take, if_pos h, ← List.getD_eq_getElem?_getD, hc5 n]
        · rw [List.getD_eq_getElem?_getD, List.getElem?_take, if_neg (by omega)]
          have px : 1 ≤ xs.length := List.length_pos_iff.mpr nx
          exact (conv_out xs ys _ (Nat.le_refl _) (by omega) (by omega)).symm
end
end Pl

set_option Elab.async false
set_option linter.all false
set_option maxRecDepth 100000
set_option maxHeartbeats 4000000
namespace Pl
open PySem PySem.Spec PyProof.Rows L2 RZ
section
variable {P : Program} {w : World} {K : PySem.W.Frag} {mg : Str → Option Value} {base : Heap}
def prodL (xs ys : List Int) : List Int := if xs = [] ∨ ys = [] then [] else mulP xs ys
theorem prodL_get (xs ys : List Int) (n : Nat) : (prodL xs ys).getD n 0 = conv xs ys xs.length n := by
  unfold prodL
  split
  · rename_i h
    show (0 : Int) = _
    rcases h with h | h
    · subst h
      rfl
    · subst h
      have e : ∀ t, conv xs [] t n = 0 := fun t => by
        induction t with
        | zero => rfl
        | succ t ih =>
          show conv xs [] t n + _ * shl [] t n = 0
          rw [ih, shl_out (by show n < t ∨ t + 0 ≤ n; omega), Int.mul_zero]
          rfl
      exact (e _).symm
  · exact mulP_get xs ys n
theorem prodL_length (xs ys : List Int) : (prodL xs ys).length ≤ xs.length + ys.length := by
  unfold prodL
  split
  · exact Nat.zero_le _
  · rw [mulP_length]
    omega
theorem val_prodL (w : Nat) (xs ys : List Int) : val (prodL xs ys) w = val xs w * val ys w := by
  unfold prodL
  split
  · rename_i h
    rcases h with h | h
    · subst h
      show (0 : Int) = 0 * _
      rw [Int.zero_mul]
    · subst h
      show (0 : Int) = _ * 0
      rw [Int.mul_zero]
  · exact val_mulP w ys xs
theorem ent_all (es : List Int) : ent es es.length = es := list_of_get (by simp [ent]) fun n => by
  unfold ent
  rw [List.getD_eq_getElem?_getD, List.getElem?_map]
  rcases Nat.lt_or_ge n es.length with h | h
  · rw [List.getElem?_range h]
    rfl
  · rw [List.getElem?_eq_none (by rw [List.length_range]; exact h), List.getD_eq_getElem?_getD, List.getElem?_eq_none h]
    rfl
theorem bal_mulP {xs ys : List Int} {g1 g2 pb : Nat} (h1 : ∀ x ∈ xs, x.natAbs < 2 ^ g1) (h2 : ∀ y ∈ ys, y.natAbs < 2 ^ g2) (hp : min xs.length ys.length < 2 ^ pb) :
    balL (val xs (g1 + g2 + pb + 1) * val ys (g1 + g2 + pb + 1)) (g1 + g2 + pb + 1) (xs.length + ys.length - 1) = mulP xs ys := by
  rw [← val_mulP, (bal_iff (mulP xs ys) (show 1 ≤ g1 + g2 + pb + 1 by omega) _).mpr fun i _ => ?_]
  · rw [← mulP_length]
    exact ent_all _
  · have hz := mulP_get_small xs ys (Nat.pow_pos (by decide)) (Nat.pow_pos (by decide)) h1 h2 i
    have hlt : min xs.length ys.length * (2 ^ g1 * 2 ^ g2) < 2 ^ (g1 + g2 + pb) := by
      rw [Nat.pow_add 2 (g1 + g2) pb, ← Nat.pow_add, Nat.mul_comm (2 ^ (g1 + g2))]
      exact Nat.mul_lt_mul_of_pos_right hp (Nat.pow_pos (by decide))
    show -(2 ^ (g1 + g2 + pb)) ≤ _ ∧ _ < (2 : Int) ^ (g1 + g2 + pb)
    have e : (2 : Int) ^ (g1 + g2 + pb) = ((2 ^ (g1 + g2 + pb) : Nat) : Int) := by rw [Int.natCast_pow] <;> rfl
    rw [e]
    omega
def spProduct (K : PySem.W.Frag) : Sp := fun vs H Q _ => ∃ (a b : Addr) (m1 m2 : Nat) (xs ys : List Int), vs = [.ref a, .ref b] ∧ Sq K H a (xs.map V.int) ∧ Sq K H b (ys.map V.int) ∧
  (∀ x ∈ xs, x.natAbs < 2 ^ m1) ∧ (∀ y ∈ ys, y.natAbs < 2 ^ m2) ∧ (m1 + m2 + 20) * (xs.length + ys.length) ≤ 600000 ∧ ∀ H' p, Same H H' → H' p = some (.lst ((prodL xs ys).map V.int)) → Q (.ref p) H'
theorem ok_product (T : Txt K mg) : FnOk P w K mg base CX0 4 (He.fAd K ("product", none)) T.d_product ["one", "other"] (spProduct K) := by
  refine FunD.ok T.fn_product sc_product (fun vs H Q E h => ?_) (fun cdv A outer s H vs Q E hr h => ?_)
  · obtain ⟨a, b, m1, m2, xs, ys, rfl, _⟩ := h
    rfl
  · obtain ⟨a, b, m1, m2, xs, ys, rfl, ha, hb, h1, h2, hB, q⟩ := h
    refine ⟨_, PSs.nox (pss_cons (ps_if (PW.pt (pw_or (pt_cmpR op_eq (pe_callB (call_lenK (K := K)) (by rfl) T.z_len PySem.boot_len (pa_cons (pv 0) pa_nil)) pe_int (nomark _)) (pw_or1 (pt_cmpR op_eq (pe_callB (call_lenK (K := K)) (by rfl) T.z_len PySem.boot_len (pa_cons (pv 1) pa_nil)) pe_int (nomark _)))))
  (pss_one (ps_ret (pe_lstN pa_nil)))
  pss_nil)
  (pss_cons (ps_if (pt_not (pt_val (pe_call (ok__packing_pays T) (hr.mono (by decide)) (by rfl) T.m__packing_pays T.fn__packing_pays.kp T.b__packing_pays .nil pass0 (pa_cons (pv 0) (pa_cons (pv 1) pa_nil)))))
  (pss_one (ps_ret (pe_call (ok__product_by_pairs T) (hr.mono (by decide)) (by rfl) T.m__product_by_pairs T.fn__product_by_pairs.kp T.b__product_by_pairs .nil pass0 (pa_cons (pv 0) (pa_cons (pv 1) pa_nil)))))
  pss_nil)
  (pss_cons (ps_set (i := 2) sc_product.nd rfl (Or.inl rfl) (pe_call (ok__product_width T) (hr.mono (by decide)) (by rfl) T.m__product_width T.fn__product_width.kp T.b__product_width .nil pass0 (pa_cons (pv 0) (pa_cons (pv 1) pa_nil))))
  (pss_cons (ps_set (i := 3) sc_product.nd rfl (Or.inl rfl) (pe_op op_mulW (pe_call (ok_joined T) (hr.mono (by decide)) (by rfl) T.m_joined T.fn_joined.kp T.b_joined .nil pass0 (pa_cons (pv 0) (pa_cons (pv 2) pa_nil))) (pe_call (ok_joined T) (hr.mono (by decide)) (by rfl) T.m_joined T.fn_joined.kp T.b_joined .nil pass0 (pa_cons (pv 1) (pa_cons (pv 2) pa_nil)))))
  (pss_one (ps_ret (pe_call (ok_balanced_digits T) (hr.mono (by decide)) (by rfl) T.m_balanced_digits T.fn_balanced_digits.kp T.b_balanced_digits .nil pass0 (pa_cons (pv 3) (pa_cons (pv 2) (pa_cons (pe_op op_sub (pe_op op_add (pe_callB (call_lenK (K := K)) (by rfl) T.z_len PySem.boot_len (pa_cons (pv 0) pa_nil)) (pe_callB (call_lenK (K := K)) (by rfl) T.z_len PySem.boot_len (pa_cons (pv 1) pa_nil))) pe_int) pa_nil)))))))))), ?_⟩
    have hB2 : 20 * (xs.length + ys.length) ≤ 600000 := Nat.le_trans (Nat.mul_le_mul_right _ (by omega)) hB
    have nil : xs = [] ∨ ys = [] → ∀ H' p, Same H H' → H' p = some (.lst []) → Q (.ref p) H' := fun hn H' p s e => q H' p s (by
      rw [e]
      unfold prodL
      rw [if_pos hn]
      rfl)
    refine ⟨_, rfl, _, _, rfl, ha, rfl, _, rfl, ?_⟩
    rw [List.length_map]
    by_cases hx0 : xs = []
    · have e : decide (V.int ((xs.length : Nat) : Int) = V.int 0) = true := decide_eq_true (by rw [hx0]; rfl)
      rw [e]
      exact iteT (iteT ⟨Nat.zero_le _, fun H' p s n e => nil (.inl hx0) H' p s e⟩)
    have px : 1 ≤ xs.length := List.length_pos_iff.mpr hx0
    rw [decide_eq_false (fun z => by have := V.int.inj z; omega)]
    refine iteF ⟨_, rfl, _, _, rfl, hb, rfl, _, rfl, ?_⟩
    rw [List.length_map]
    by_cases hy0 : ys = []
    · have e : decide (V.int ((ys.length : Nat) : Int) = V.int 0) = true := decide_eq_true (by rw [hy0]; rfl)
      rw [e]
      exact iteT ⟨Nat.zero_le _, fun H' p s n e => nil (.inr hy0) H' p s e⟩
    have py : 1 ≤ ys.length := List.length_pos_iff.mpr hy0
    rw [decide_eq_false (fun z => by have := V.int.inj z; omega)]
    refine iteF ?_
    have hpl : prodL xs ys = mulP xs ys := by
      unfold prodL
      rw [if_neg (by rintro (h | h) <;> contradiction)]
    have hB3 : (m1 + m2 + 20) * 2 ≤ 600000 := Nat.le_trans (Nat.mul_le_mul_left _ (by omega)) hB
    refine ⟨_, rfl, _, rfl, a, b, m1, m2, xs, ys, rfl, ha, hb, hx0, hy0, h1, h2, by omega, fun H1 c s1 => ⟨_, rfl, ?_⟩⟩
    cases c with
    | false =>
      refine iteT ⟨_, rfl, _, rfl, a, b, m1, m2, xs, ys, rfl, s1.sq ha, s1.sq hb, hx0, hy0, by omega, by omega, h1, h2, by omega, fun H2 p s2 e2 => q H2 p (s1.trans s2) ?_⟩
      rw [hpl]
      exact e2
    | true =>
      refine iteF ⟨_, rfl, _, rfl, a, b, m1, m2, xs, ys, rfl, s1.sq ha, s1.sq hb, hx0, hy0, by omega, by omega, h1, h2, fun H2 g1 g2 pb s2 q1 q2 r1 r2 hp r3 => ?_⟩
      have hsum : (g1 + g2 + pb + 1 + 1) * (xs.length + ys.length) ≤ 600000 := Nat.le_trans (Nat.mul_le_mul_right _ (by omega)) hB
      generalize hW : g1 + g2 + pb + 1 = W at *
      have hW1 : 1 ≤ W := by omega
      have hx3 : (W + 1) * xs.length ≤ 600000 := Nat.le_trans (Nat.mul_le_mul_left _ (by omega)) hsum
      have hy3 : (W + 1) * ys.length ≤ 600000 := Nat.le_trans (Nat.mul_le_mul_left _ (by omega)) hsum
      have hx4 : W * xs.length ≤ 600000 := Nat.le_trans (Nat.mul_le_mul_right _ (by omega)) hx3
      have hy4 : W * ys.length ≤ 600000 := Nat.le_trans (Nat.mul_le_mul_right _ (by omega)) hy3
      have hW2 : W ≤ 600000 := by omega
      have s02 := s1.trans s2
      refine ⟨_, rfl, _, rfl, a, W, m1, xs, rfl, s02.sq ha, by omega, h1, hW1, by omega, fun H3 s3 => ?_⟩
      refine ⟨_, rfl, _, rfl, b, W, m2, ys, rfl, (s02.trans s3).sq hb, by omega, h2, hW1, by omega, fun H4 s4 => ?_⟩
      have v1 := val_small (w := W) xs h1
      have v2 := val_small (w := W) ys h2
      have l1 := log_le v1
      have l2 := log_le v2
      have hexp : (W + 1) * (xs.length + ys.length) = (W + 1) * xs.length + (W + 1) * ys.length := Nat.mul_add _ _ _
      refine ⟨_, _, rfl, rfl, ?_, ?_⟩
      · show (val xs W).natAbs.log2 + (val ys W).natAbs.log2 < 1000000
        omega
      have s04 := s02.trans (s3.trans s4)
      have ec : ((xs.length : Nat) : Int) + ((ys.length : Nat) : Int) - 1 = ((xs.length + ys.length - 1 : Nat) : Int) := by omega
      refine ⟨_, rfl, _, rfl, _, rfl, _, _, rfl, s04.sq ha, _, rfl, _, _, rfl, s04.sq hb, _, _, rfl, rfl, _, _, rfl, rfl, ?_⟩
      rw [List.length_map, List.length_map]
      have hcc : W * (xs.length + ys.length - 1 + 1) ≤ 600000 := by
        rw [show xs.length + ys.length - 1 + 1 = xs.length + ys.length by omega]
        exact Nat.le_trans (Nat.mul_le_mul_right _ (by omega)) hsum
      refine ⟨val xs W * val ys W, W, xs.length + ys.length - 1, (m1 + (W + 1) * xs.length) + (m2 + (W + 1) * ys.length), by rw [← ec] <;> rfl, ?_, hW1, by omega, by omega, by omega, fun H5 p s5 e5 => q H5 p (s04.trans s5) ?_⟩
      · rw [Int.natAbs_mul, Nat.pow_add]
        exact Nat.mul_lt_mul'' v1 v2
      · rw [e5, hpl]
        subst hW
        rw [bal_mulP q1 q2 hp]
def spQuot (K : PySem.W.Frag) : Sp := fun vs H Q _ => ∃ (a b : Addr) (m k top : Nat) (xs ds : List Int), vs = [.ref a, .ref b] ∧ Sq K H a (xs.map V.int) ∧ Sq K H b (ds.map V.int) ∧ ds.length = top + 1 ∧ ds.getD top 0 = 1 ∧ top ≤ xs.length ∧ xs.length ≤ 10000 ∧
  (∀ x ∈ xs, x.natAbs < 2 ^ m) ∧ (∀ d ∈ ds, d.natAbs < 2 ^ k) ∧ m + (xs.length + 1) * (k + 1) ≤ 900000 ∧
  ∀ H' p qs r, Same H H' → H' p = some (.lst (qs.map V.int)) → qs.length = xs.length - top → List.length r = top → (∀ w, val xs w = val qs w * val ds w + val r w) → (∀ x ∈ qs ++ r, Int.natAbs x < 2 ^ (m + (xs.length - top) * (k + 1))) → Q (.ref p) H'
theorem quot_small {M k : Nat} {t y z : Int} (ht : t.natAbs < M) (hy : y.natAbs < M) (hz : z.natAbs < 2 ^ k) : (y - t * z).natAbs < M * 2 ^ (k + 1) := by
  have h1 : (t * z).natAbs ≤ M * 2 ^ k := by
    rw [Int.natAbs_mul]
    exact Nat.mul_le_mul (Nat.le_of_lt ht) (Nat.le_of_lt hz)
  have h2 : M ≤ M * 2 ^ k := Nat.le_mul_of_pos_right _ (Nat.pow_pos (by decide))
  have h3 : M * 2 ^ (k + 1) = M * 2 ^ k * 2 := by rw [Nat.pow_succ, Nat.mul_assoc]
  have h4 : (y - t * z).natAbs ≤ y.natAbs + (t * z).natAbs := by
    rw [Int.sub_eq_add_neg]
    have := Int.natAbs_add_le y (-(t * z))
    rwa [Int.natAbs_neg] at this
  omega
theorem all_small {L : List Int} {M : Nat} (hM : 0 < M) (h : ∀ n, (L.getD n 0).natAbs < M) : ∀ x ∈ L, x.natAbs < M := fun x hx => by
  obtain ⟨n, hn, rfl⟩ := List.mem_iff_getElem.mp hx
  have := h n
  rwa [List.getD_eq_getElem?_getD, List.getElem?_eq_getElem hn] at this
theorem shl_small {ys : List Int} {B : Nat} (hB : 0 < B) (h : ∀ y ∈ ys, y.natAbs < B) (i n : Nat) : (shl ys i n).natAbs < B := by
  unfold shl
  split
  · exact getD_small hB h _
  · exact hB
theorem ok__quotient_by_lanes (T : Txt K mg) : FnOk P w K mg base CX0 1 (He.fAd K ("_quotient_by_lanes", none)) T.d__quotient_by_lanes ["entries", "divisor"] (spQuot K) := by
  refine FunD.ok T.fn__quotient_by_lanes sc__quotient_by_lanes (fun vs H Q E h => ?_) (fun cdv A outer s H vs Q E hr h => ?_)
  · obtain ⟨a, b, m, k, top, xs, ds, rfl, _⟩ := h
    rfl
  · obtain ⟨a, b, m, k, top, xs, ds, rfl, ha, hb, hdl, hmon, htop, hxl, hx, hd, hB, q⟩ := h
    refine ⟨_, PSs.nox (pss_cons (ps_set (i := 2) sc__quotient_by_lanes.nd rfl (Or.inl rfl) (pe_op op_sub (pe_callB (call_lenK (K := K)) (by rfl) T.z_len PySem.boot_len (pa_cons (pv 1) pa_nil)) pe_int))
  (pss_cons (ps_setLcN (i := 3) (own := [("lane", 4), ("worth", 5)]) rfl sc__quotient_by_lanes.nd rfl rfl (sw_true rfl rfl rfl (by decide +kernel)) (pi_enumQ (K := K) (by rfl) T.z_enumerate (pa_cons (pe_slice (sl_sqK (K := K)) (pv 1) po_none (po_some (pv 2))) pa_nil)) (blkOk_by (own := [("lane", 4), ("worth", 5)]) (N := ["entries", "divisor", "top", "below", "lane", "worth", "left", "low", "times"]) (sc := defScope s__quotient_by_lanes) (by decide +kernel)) (fun _ _ _ _ _ => (pg_pair (K := K) (i := 4) (j := 5) rfl sc__quotient_by_lanes.nd rfl rfl (Or.inl rfl) (Or.inl rfl))) (fun _ _ _ _ _ => (pts_one (pt_cmpR op_ne (pv 5) pe_int (nomark _)))) (fun _ _ _ _ _ => (pe_tupK (K := K) (pa_cons (pv 4) (pa_cons (pv 5) pa_nil)))))
  (pss_cons (ps_set (i := 6) sc__quotient_by_lanes.nd rfl (Or.inl rfl) (pe_callTy (call_listK (K := K)) (by rfl) T.z_list (by decide +kernel) (pa_cons (pv 0) pa_nil)))
  (pss_cons (ps_for PassesOwn.never rfl (pi_revR rfl T.z_reversed (prg_1 rfl T.z_range (pe_op op_sub (pe_callB (call_lenK (K := K)) (by rfl) T.z_len PySem.boot_len (pa_cons (pv 0) pa_nil)) (pv 2)))) (pg_name (i := 7) sc__quotient_by_lanes.nd rfl (Or.inl rfl))
  (pss_cons (ps_set (i := 8) sc__quotient_by_lanes.nd rfl (Or.inl rfl) (pe_ix (ix_listK (K := K)) (pv 6) (pe_op op_add (pv 7) (pv 2)) (fun _ _ => rfl)))
  (pss_one (ps_ifJ (pt_cmpR op_ne (pv 8) pe_int (nomark _))
  (pss_one (ps_for PassesOwn.never rfl (pi_listK (K := K) (pv 3)) (pg_pair (K := K) (i := 4) (j := 5) rfl sc__quotient_by_lanes.nd rfl rfl (Or.inl rfl) (Or.inl rfl))
  (pss_one (ps_asg (pe_op op_sub (pe_ix (ix_listK (K := K)) (pv 6) (pe_op op_add (pv 7) (pv 4)) (fun _ _ => rfl)) (pe_op op_mulW (pv 8) (pv 5))) (pg_sub (pv 6) (pe_op op_add (pv 7) (pv 4)) set_list)))))
  pss_nil))))
  (pss_one (ps_ret (pe_slice (sl_listK (K := K)) (pv 6) (po_some (pv 2)) po_none))))))), ?_⟩
    have hds2 : (ds.take top).length = top := by rw [List.length_take]; omega
    have hd2 : ∀ d ∈ ds.take top, d.natAbs < 2 ^ k := fun d h => hd d (List.mem_of_mem_take h)
    have etop : (((ds.map V.int).length : Nat) : Int) - 1 = ((top : Nat) : Int) := by rw [List.length_map, hdl]; omega
    refine ⟨_, rfl, _, _, rfl, hb, _, _, rfl, rfl, ?_⟩
    show tSeq _ _ _ (List.set _ 2 (some (.int ((((ds.map V.int).length : Nat) : Int) - 1)))) H
    rw [etop]
    refine ⟨_, rfl, _, rfl, _, rfl, slQ hb fun H1 dt s1 h1 => ?_⟩
    rw [cut_to, ← List.map_take] at h1
    obtain ⟨bb, hbb⟩ := Sq.cases h1
    -- below
    refine ⟨bb, dt, _, rfl, hbb, fun D H2 hD s2 e2 => ?_⟩
    refine lcN_pair (K := K) (walk_enumB (xs := (ds.take top).map V.int)) (fun i acc H' => Same H1 H' ∧ ∃ ts : List Addr, acc = ts.map V.ref ∧ LsAt (fun t l => SqT K H' t (l.map V.int)) ts (pl (prs (ds.take top) i))) ⟨s2, [], rfl, LsAt.nil⟩ (fun i acc H' _ z _ => hbb.same z.1) ?_ ?_
    · rintro i x y acc H3 H4 t hxx hy hi ⟨s3, ts, rfl, hL⟩ eD s4 hT
      cases hxx
      obtain ⟨v, hv, rfl⟩ := map_get hy
      have hgd : (ds.take top).getD i 0 = v := by rw [List.getD_eq_getElem?_getD, hv] <;> rfl
      have hlen : ts.length ≤ i := by
        have e := hL.1
        have e2 := prs_length (ds.take top) i
        unfold pl at e
        rw [List.length_map] at e
        omega
      have hit : i < top := by rw [List.length_map, hds2] at hi; exact hi
      refine g_pair hT ⟨rfl, _, rfl, rfl, _, rfl, iteNB (fun hne => ?_) fun heq => ?_⟩
      · refine ⟨_, rfl, _, rfl, by show 2 ≤ sizeLine; exact small (by omega), fun H5 u s5 hu => ?_⟩
        have eD5 := s5 _ _ (s4 _ _ eD)
        refine ⟨eD5, by rw [List.length_map]; exact len_big (by omega), fun H6 b6 e6 => ⟨(s3.trans (s4.trans s5)).but hD b6, ts ++ [u], by rw [List.map_append]; rfl, ?_⟩⟩
        have hp : pl (prs (ds.take top) (i + 1)) = pl (prs (ds.take top) i) ++ [[(i : Int), v]] := by
          rw [prs_succ, hgd, if_pos (fun z => hne (by rw [z]))]
          unfold pl
          rw [List.map_append]
          rfl
        rw [hp]
        exact (hL.mono fun t l h => SqT.but' (s5.seqT (s4.seqT h)) eD5 b6).snoc (SqT.but' hu eD5 b6)
      · have hv0 : v = 0 := V.int.inj heq
        have hp : prs (ds.take top) (i + 1) = prs (ds.take top) i := by
          rw [prs_succ, hgd, hv0, if_neg (by simp)]
          exact List.append_nil _
        refine ⟨s4 _ _ eD, s3.trans s4, ts, rfl, ?_⟩
        rw [hp]
        exact hL.mono fun t l h => s4.seqT h
    rintro acc H3 ⟨s3, ts, rfl, hL⟩ eD
    rw [List.length_map] at hL
    have s03 := s1.trans s3
    -- left
    refine ⟨_, rfl, _, _, rfl, s03.sq ha, fun H4 S s4 n4 e4 => ?_⟩
    have hS : H3 S = none := n4
    have enn : (((xs.map V.int).length : Nat) : Int) - ((top : Nat) : Int) = ((xs.length - top : Nat) : Int) := by rw [List.length_map]; omega
    refine ⟨_, rfl, _, _, rfl, (s03.trans s4).sq ha, _, rfl, _, _, rfl, rfl, _, rfl, ?_⟩
    rw [enn]
    refine ⟨by decide, by decide, by omega, by omega, for_rangeC (fun i σ H' => ∃ z4 z5 z7 z8, ∃ L : List Int, σ = [some (.ref a), some (.ref b), some (.int (top : Nat)), some (.ref D), z4, z5, some (.ref S), z7, z8] ∧ Same H3 H' ∧ H' S = some (.lst (L.map V.int)) ∧ L.length = xs.length ∧ (∀ x ∈ L, x.natAbs < 2 ^ (m + i * (k + 1))) ∧
      ∀ w, val xs w = 2 ^ (w * (xs.length - top - i)) * val (L.drop (xs.length - top - i + top)) w * val ds w + val (L.take (xs.length - top - i + top)) w) ⟨none, none, none, none, xs, rfl, s4, e4, rfl, ?_, fun w => ?_⟩ ?_ ?_⟩
    · rw [Nat.zero_mul, Nat.add_zero]
      exact hx
    · rw [show xs.length - top - 0 + top = xs.length by omega, List.drop_length, List.take_length]
      show _ = _ * 0 * _ + _
      rw [Int.mul_zero, Int.zero_mul, Int.zero_add]
    · rintro i σ H5 hi ⟨z4, z5, z7, z8, L, rfl, s5, eS, hLl, hLs, hLv⟩
      have hi2 : i < xs.length - top := by omega
      obtain ⟨j, hj⟩ : ∃ j, xs.length - top - i = j + 1 := ⟨xs.length - top - i - 1, by omega⟩
      have hj1 : xs.length - top - (i + 1) = j := by omega
      have elow : (0 : Int) + (((((xs.length - top : Nat) : Int) - 0).toNat : Nat) : Int) - 1 + (i : Nat) * (-1) = (j : Int) := by omega
      have hidx : j + top < L.length := by omega
      have ejt : ((j : Nat) : Int) + ((top : Nat) : Int) = ((j + top : Nat) : Int) := (Int.natCast_add _ _).symm
      have hMp : 0 < 2 ^ (m + i * (k + 1)) := Nat.pow_pos (by decide)
      rw [hj] at hLv
      refine ⟨_, rfl, _, rfl, _, rfl, _, _, rfl, rfl, _, _, _, _, rfl, rfl, SqL.of eS, at_ints (n := j + top) (by rw [elow, ejt]) hidx, ?_⟩
      have hik : i * (k + 1) ≤ (xs.length + 1) * (k + 1) := Nat.mul_le_mul_right _ (by omega)
      have htm : (L.getD (j + top) 0).natAbs < 2 ^ (m + i * (k + 1)) := getD_small hMp hLs _
      -- what the turn leaves
      have fin : ∀ L' : List Int, L'.length = xs.length → (∀ n, L'.getD n 0 = L.getD n 0 - L.getD (j + top) 0 * shl (ds.take top) j n) →
          (∀ x ∈ L', x.natAbs < 2 ^ (m + (i + 1) * (k + 1))) ∧ ∀ w, val xs w = 2 ^ (w * (xs.length - top - (i + 1))) * val (L'.drop (xs.length - top - (i + 1) + top)) w * val ds w + val (L'.take (xs.length - top - (i + 1) + top)) w := fun L' hl' hg => by
        refine ⟨all_small (Nat.pow_pos (by decide)) fun n => ?_, fun w => ?_⟩
        · rw [hg, show m + (i + 1) * (k + 1) = (m + i * (k + 1)) + (k + 1) by rw [Nat.succ_mul]; omega, Nat.pow_add]
          exact quot_small htm (getD_small hMp hLs n) (shl_small (Nat.pow_pos (by decide)) hd2 j n)
        · rw [hj1]
          exact quot_step hdl hmon (by omega) (by omega) hg (hLv w)
      refine ⟨fun σ' H' => ∃ z4 z5, ∃ L' : List Int, σ' = [some (.ref a), some (.ref b), some (.int (top : Nat)), some (.ref D), z4, z5, some (.ref S), some (.int (j : Int)), some (.int (L.getD (j + top) 0))] ∧ Same H3 H' ∧ H' S = some (.lst (L'.map V.int)) ∧ L'.length = xs.length ∧ ∀ n, L'.getD n 0 = L.getD n 0 - L.getD (j + top) 0 * shl (ds.take top) j n,
        ⟨_, rfl, rfl, _, rfl, iteNB (fun hne => ?_) fun heq => ?_⟩, fun σ' H' ⟨z4, z5, L', e, s, eS', hl', hg⟩ => ⟨z4, z5, _, _, L', e, s, eS', hl', (fin L' hl' hg).1, (fin L' hl' hg).2⟩⟩
      · have eD5 := s5 _ _ eD
        refine ⟨_, rfl, D, rfl, ⟨_, SqL.of eD5⟩, ?_⟩
        rw [elow]
        refine for_it (walk_list (xs := ts.map V.ref)) (fun t σ' H' => ∃ z4 z5, ∃ L' : List Int, σ' = [some (.ref a), some (.ref b), some (.int (top : Nat)), some (.ref D), z4, z5, some (.ref S), some (.int (j : Int)), some (.int (L.getD (j + top) 0))] ∧ Same H3 H' ∧ H' S = some (.lst (L'.map V.int)) ∧ L'.length = xs.length ∧ ∀ n, L'.getD n 0 = L.getD n 0 - inn (L.getD (j + top) 0) j ((prs (ds.take top) top).take t) n) ⟨z4, z5, L, rfl, s5, eS, hLl, fun n => ?_⟩ ?_ ?_ ?_
        · unfold inn
          show _ = _ - _ * (if j ≤ n then (0 : Int) else 0)
          split <;> rw [Int.mul_zero, Int.sub_zero]
        · rintro t σ' H' _ ⟨z4, z5, L', rfl, s7, _⟩
          exact SqL.of (s7 _ _ eD)
        · rintro t x σ' H7 H8 ht ⟨z4, z5, L', rfl, s7, eS7, hl7, hg7⟩ ⟨rfl, hxx⟩
          obtain ⟨t2, ht2, rfl⟩ := map_getR hxx
          obtain ⟨l2, hl2, hT2⟩ := (hL.mono fun t l h => s7.seqT h).get ht2
          rw [hds2] at hl2
          obtain ⟨p, hp, rfl⟩ := pl_get hl2
          have hpl : p.1 < top := prs_lt (List.mem_of_getElem? hp)
          have hpy : p.2.natAbs < 2 ^ k := by
            have hmem := List.mem_of_getElem? hp
            unfold prs at hmem
            obtain ⟨z, hz, rfl⟩ := List.mem_map.mp (List.mem_filter.mp hmem).1
            exact getD_small (Nat.pow_pos (by decide)) hd2 z
          have hid : j + p.1 < L'.length := by omega
          have eid : ((j : Nat) : Int) + ((p.1 : Nat) : Int) = ((j + p.1 : Nat) : Int) := (Int.natCast_add _ _).symm
          refine g_pair hT2 ⟨_, rfl, _, rfl, _, rfl, _, _, rfl, rfl, _, _, _, _, rfl, rfl, SqL.of eS7, at_ints (n := j + p.1) eid hid, ?_⟩
          refine ⟨_, rfl, _, rfl, _, _, rfl, rfl, ?_, _, _, rfl, rfl, ?_⟩
          · have l1 := log_le htm
            have l2 := log_le hpy
            have hk1 : k ≤ (xs.length + 1) * (k + 1) := by
              have := Nat.mul_le_mul_right (k + 1) (show 1 ≤ xs.length + 1 by omega)
              omega
            have hik2 : i * (k + 1) + (k + 1) ≤ (xs.length + 1) * (k + 1) := by
              rw [← Nat.succ_mul]
              exact Nat.mul_le_mul_right _ (by omega)
            show _ + _ < 1000000
            omega
          refine ⟨_, rfl, _, rfl, _, rfl, _, _, rfl, rfl, S, _, _, j + p.1, rfl, rfl, eS7, ?_, ?_⟩
          · rw [List.length_map, eid]
            exact ixN_nat hid
          refine ⟨_, _, L'.set (j + p.1) (L'.getD (j + p.1) 0 + -(L.getD (j + top) 0 * p.2)), rfl, s7.but hS .of_upd, ?_, by rw [List.length_set]; exact hl7, fun n => ?_⟩
          · rw [upd_same, List.map_set, ← Int.sub_eq_add_neg]
          · rw [set_get hid, hg7 n, take_snoc hp, inn_snoc]
            split <;> omega
        · rintro σ' H7 ⟨z4, z5, L', rfl, s7, eS7, hl7, hg7⟩
          refine ⟨_, _, L', rfl, s7, eS7, hl7, fun n => ?_⟩
          have hk : (ts.map V.ref).length = (prs (ds.take top) top).length := by
            have e := hL.1
            rw [hds2] at e
            unfold pl at e
            rw [List.length_map] at e
            rw [List.length_map, e]
          have hal := inn_all (L.getD (j + top) 0) j (ds.take top) n
          rw [hds2] at hal
          rw [hg7 n, hk, List.take_of_length_le (Nat.le_refl _), hal]
      · have hv0 : L.getD (j + top) 0 = 0 := V.int.inj heq
        refine ⟨_, _, L, by rw [elow] <;> rfl, s5, eS, hLl, fun n => ?_⟩
        rw [hv0, Int.zero_mul, Int.sub_zero]
    · rintro σ H5 ⟨z4, z5, z7, z8, L, rfl, s5, eS, hLl, hLs, hLv⟩
      have en : (((xs.length - top : Nat) : Int) - 0).toNat = xs.length - top := by omega
      rw [en, Nat.sub_self] at hLv
      rw [en] at hLs
      refine ⟨_, rfl, _, rfl, _, rfl, S, _, rfl, SqL.of eS, fun H6 p6 s6 n6 e6 => q H6 p6 (L.drop top) (L.take top) (s03.trans (s5.trans s6)) ?_ ?_ ?_ ?_ ?_⟩
      · rw [e6, cut_from, ← List.map_drop]
      · rw [List.length_drop, hLl]
      · rw [List.length_take]
        omega
      · intro w
        have := hLv w
        rw [Nat.mul_zero, Int.pow_zero, Int.one_mul, Nat.zero_add] at this
        exact this
      · intro x hx
        rcases List.mem_append.mp hx with h | h
        · exact hLs x (List.mem_of_mem_drop h)
        · exact hLs x (List.mem_of_mem_take h)
end
end Pl

set_option Elab.async false
set_option linter.all false
set_option maxRecDepth 100000
set_option maxHeartbeats 4000000
namespace Pl
open PySem PySem.Spec PyProof.Rows L2 RZ
section
variable {P : Program} {w : World} {K : PySem.W.Frag} {mg : Str → Option Value} {base : Heap}
theorem val_negL' (w : Nat) : ∀ ys : List Int, val (negL ys) w = -val ys w
  | [] => rfl
  | y :: ys => by
    show -y + 2 ^ w * val (negL ys) w = -(y + 2 ^ w * val ys w)
    rw [val_negL' w ys, Int.mul_neg, Int.neg_add]
theorem val_split (l : List Int) (w : Nat) {c : Nat} (h : c ≤ l.length) : val l w = val (l.take c) w + 2 ^ (w * c) * val (l.drop c) w := by
  have e := val_append w (l.take c) (l.drop c)
  rw [List.take_append_drop, List.length_take, Nat.min_eq_left h] at e
  exact e
theorem prodL_len {xs ys : List Int} {n : Nat} (h : ys ≠ [] → xs.length + ys.length ≤ n + 1) : (prodL xs ys).length ≤ n := by
  unfold prodL
  split
  · exact Nat.zero_le _
  · rename_i hn
    rw [mulP_length]
    have := h fun z => hn (.inr z)
    omega
theorem quot_cut {xs ds q r : List Int} {cut top : Nat} (hd : ds.length = top + 1) (hc : cut ≤ top) (hcx : cut ≤ xs.length) (hr : r.length ≤ top - cut) (hq : 0 < cut → q.length + cut ≤ top + 1)
    (h : ∀ w, val (xs.drop cut) w = val q w * val (ds.drop cut) w + val r w) : ∃ r' : List Int, r'.length ≤ top ∧ ∀ w, val xs w = val q w * val ds w + val r' w := by
  refine ⟨addL (addL (List.replicate cut 0 ++ r) (xs.take cut)) (negL (prodL q (ds.take cut))), ?_, fun w => ?_⟩
  · have h1 : (negL (prodL q (ds.take cut))).length ≤ top := by
      unfold negL
      rw [List.length_map]
      refine prodL_len fun hne => ?_
      have hp : 0 < (ds.take cut).length := List.length_pos_iff.mpr hne
      rw [List.length_take] at hp ⊢
      have := hq (by omega)
      omega
    rw [addL_length, addL_length, List.length_append, List.length_replicate, List.length_take]
    omega
  · rw [val_addL, val_addL, val_up, val_negL', val_prodL, val_split xs w hcx, h w, val_split ds w (show cut ≤ ds.length by omega)]
    generalize val (xs.take cut) w = A
    generalize val (ds.take cut) w = B
    generalize val (ds.drop cut) w = C
    generalize val q w = D
    generalize val r w = E
    generalize (2 : Int) ^ (w * cut) = F
    grind
def spQuotient (K : PySem.W.Frag) : Sp := fun vs H Q _ => ∃ (a b : Addr) (m k top : Nat) (xs ds : List Int), vs = [.ref a, .ref b] ∧ Sq K H a (xs.map V.int) ∧ Sq K H b (ds.map V.int) ∧ ds.length = top + 1 ∧ ds.getD top 0 = 1 ∧ top ≤ 39 ∧ xs.length ≤ 10000 ∧
  (∀ x ∈ xs, x.natAbs < 2 ^ m) ∧ (∀ d ∈ ds, d.natAbs < 2 ^ k) ∧ m + (xs.length + 1) * (k + 1) ≤ 900000 ∧
  ∀ H' p qs r, Same H H' → H' p = some (.lst (qs.map V.int)) → qs.length = xs.length - top → List.length r ≤ top → (∀ w, val xs w = val qs w * val ds w + val r w) → (∀ x ∈ qs, Int.natAbs x < 2 ^ (m + xs.length * (k + 1))) → Q (.ref p) H'
theorem ok_quotient (T : Txt K mg) : FnOk P w K mg base CX0 5 (He.fAd K ("quotient", none)) T.d_quotient ["entries", "divisor"] (spQuotient K) := by
  refine FunD.ok T.fn_quotient sc_quotient (fun vs H Q E h => ?_) (fun cdv A outer s H vs Q E hr h => ?_)
  · obtain ⟨a, b, m, k, top, xs, ds, rfl, _⟩ := h
    rfl
  · obtain ⟨a, b, m, k, top, xs, ds, rfl, ha, hb, hdl, hmon, htop, hxl, hx, hd, hB, q⟩ := h
    refine ⟨_, PSs.nox (pss_cons (ps_set (i := 2) sc_quotient.nd rfl (Or.inl rfl) (pe_op op_add (pe_op op_sub (pe_callB (call_lenK (K := K)) (by rfl) T.z_len PySem.boot_len (pa_cons (pv 0) pa_nil)) (pe_callB (call_lenK (K := K)) (by rfl) T.z_len PySem.boot_len (pa_cons (pv 1) pa_nil))) pe_int))
  (pss_cons (ps_if (pt_cmpR op_le (pv 2) pe_int (nomark _))
  (pss_one (ps_ret (pe_lstN pa_nil)))
  pss_nil)
  (pss_cons (ps_set (i := 3) sc_quotient.nd rfl (Or.inl rfl) (pe_callB (call_max2 rfl) (by rfl) T.z_max (by decide +kernel) (pa_cons pe_int (pa_cons (pe_op op_sub (pe_callB (call_lenK (K := K)) (by rfl) T.z_len PySem.boot_len (pa_cons (pv 1) pa_nil)) (pv 2)) pa_nil))))
  (pss_cons (ps_set (i := 4) sc_quotient.nd rfl (Or.inl rfl) (pe_slice (sl_sqK (K := K)) (pv 0) (po_some (pv 3)) po_none))
  (pss_cons (ps_set (i := 5) sc_quotient.nd rfl (Or.inl rfl) (pe_slice (sl_sqK (K := K)) (pv 1) (po_some (pv 3)) po_none))
  (pss_cons (ps_if (pt_cmpR op_le (pe_callB (call_lenK (K := K)) (by rfl) T.z_len PySem.boot_len (pa_cons (pe_lcN (own := [("worth", 6)]) rfl sc_quotient.nd (pi_sqB (K := K) (pv 5)) (blkOk_by (own := [("worth", 6)]) (N := ["entries", "divisor", "count", "cut", "upper", "lead", "worth", "half", "high", "left", "low"]) (sc := defScope s_quotient) (by decide +kernel)) (fun _ _ _ _ _ => (pg_name (i := 6) sc_quotient.nd rfl (Or.inl rfl))) (fun _ _ _ _ _ => (pts_one (pt_cmpR op_ne (pv 6) pe_int (nomark _)))) (fun _ _ _ _ _ => (pv 6))) pa_nil)) (pe_glob (v := .int 40) rfl T.g__FEW_ENTRIES.choose_spec ⟨_, rfl⟩) (nomark _))
  (pss_one (ps_ret (pe_call (ok__quotient_by_lanes T) (hr.mono (by decide)) (by rfl) T.m__quotient_by_lanes T.fn__quotient_by_lanes.kp T.b__quotient_by_lanes .nil pass0 (pa_cons (pv 4) (pa_cons (pv 5) pa_nil)))))
  pss_nil)
  (pss_cons ps_never
  (pss_cons ps_never
  (pss_cons ps_never
  (pss_cons ps_never
  (pss_one ps_never))))))))))), ?_⟩
    refine ⟨_, rfl, _, _, rfl, ha, _, rfl, _, _, rfl, hb, _, _, rfl, rfl, _, _, rfl, rfl, ?_⟩
    have ec : (((xs.map V.int).length : Nat) : Int) - (((ds.map V.int).length : Nat) : Int) + 1 = ((xs.length : Nat) : Int) - ((top : Nat) : Int) := by
      rw [List.length_map, List.length_map, hdl]
      omega
    show tSeq _ _ _ (List.set _ 2 (some (.int ((((xs.map V.int).length : Nat) : Int) - (((ds.map V.int).length : Nat) : Int) + 1)))) H
    rw [ec]
    refine ⟨_, rfl, _, _, rfl, rfl, _, rfl, iteB (fun hle => ?_) fun hgt => ?_⟩
    · refine ⟨Nat.zero_le _, fun H1 p s1 n1 e1 => q H1 p [] xs s1 e1 ?_ (by omega) (fun w => ?_) fun x hx => by simp at hx⟩
      · show 0 = _
        omega
      · show _ = 0 * _ + _
        rw [Int.zero_mul, Int.zero_add]
    refine ⟨_, rfl, _, _, rfl, hb, _, rfl, _, _, rfl, rfl, _, _, rfl, ?_⟩
    obtain ⟨cut, hcut, hcut2⟩ : ∃ cut : Nat, (if (((ds.map V.int).length : Nat) : Int) - (((xs.length : Nat) : Int) - ((top : Nat) : Int)) > 0 then (((ds.map V.int).length : Nat) : Int) - (((xs.length : Nat) : Int) - ((top : Nat) : Int)) else 0) = (cut : Int) ∧ cut = top + 1 - (xs.length - top) := by
      rw [List.length_map, hdl]
      refine ⟨top + 1 - (xs.length - top), ?_, rfl⟩
      split <;> omega
    show tSeq _ _ _ (List.set _ 3 (some (.int (if (((ds.map V.int).length : Nat) : Int) - (((xs.length : Nat) : Int) - ((top : Nat) : Int)) > 0 then (((ds.map V.int).length : Nat) : Int) - (((xs.length : Nat) : Int) - ((top : Nat) : Int)) else 0)))) H
    rw [hcut]
    refine ⟨_, rfl, _, rfl, _, rfl, slQ ha fun H1 up s1 h1 => ?_⟩
    rw [cut_from, ← List.map_drop] at h1
    refine ⟨_, rfl, _, rfl, _, rfl, slQ (s1.sq hb) fun H2 ld s2 h2 => ?_⟩
    rw [cut_from, ← List.map_drop] at h2
    obtain ⟨bb, hbb⟩ := Sq.cases h2
    have hll : (ds.drop cut).length = top - cut + 1 := by rw [List.length_drop]; omega
    refine ⟨_, rfl, bb, ld, _, rfl, hbb, fun D H3 hD s3 e3 => ?_⟩
    refine lcN_at (K := K) walk_Q (fun i acc H' => Same H2 H' ∧ ∃ ws : List Int, acc = ws.map V.int ∧ ws.length ≤ i ∧ i ≤ (ds.drop cut).length) ⟨s3, [], rfl, Nat.le_refl _, Nat.zero_le _⟩ (fun i acc H' _ z _ => hbb.same z.1) ?_ ?_
    · rintro i x acc H4 hxx ⟨s4, ws, rfl, hl, _⟩ eD
      obtain ⟨v, hv, rfl⟩ := map_get hxx
      have hi : i < (ds.drop cut).length := (List.getElem?_eq_some_iff.mp hv).1
      refine ⟨rfl, _, rfl, rfl, _, rfl, iteNB (fun _ => ?_) fun _ => ?_⟩
      · refine ⟨_, rfl, eD, ?_, fun H5 b5 e5 => ⟨s4.but hD b5, ws ++ [v], by rw [List.map_append]; rfl, by rw [List.length_append]; exact Nat.succ_le_succ hl, hi⟩⟩
        rw [List.length_map]
        exact len_big (by omega)
      · exact ⟨eD, s4, ws, rfl, by omega, hi⟩
    rintro acc H4 ⟨s4, ws, rfl, hl, _⟩ eD
    rw [List.length_map] at hl
    refine ⟨_, _, rfl, .inl (SqL.of eD), _, _, rfl, rfl, _, rfl, iteB (fun _ => ?_) fun hno => ?_⟩
    · have hxdl : (xs.drop cut).length = xs.length - cut := List.length_drop
      have hb1 : ((xs.drop cut).length + 1) * (k + 1) ≤ (xs.length + 1) * (k + 1) := Nat.mul_le_mul_right _ (by omega)
      refine ⟨_, rfl, _, rfl, up, ld, m, k, top - cut, xs.drop cut, ds.drop cut, rfl, (s2.trans s4).sq h1, s4.sq h2, hll, ?_, by omega, by omega, fun x h => hx x (List.mem_of_mem_drop h), fun d h => hd d (List.mem_of_mem_drop h), by omega, fun H5 p qs r s5 e5 hq hr hv hs => ?_⟩
      · rw [drop_get, show cut + (top - cut) = top by omega]
        exact hmon
      · obtain ⟨r', hr', hv'⟩ := quot_cut (xs := xs) (ds := ds) (q := qs) (r := r) (cut := cut) (top := top) hdl (by omega) (by omega) (by omega) (by omega) hv
        refine q H5 p qs r' (s1.trans (s2.trans (s4.trans s5))) e5 (by omega) hr' hv' fun x h => Nat.lt_of_lt_of_le (hs x (List.mem_append_left _ h)) (Nat.pow_le_pow_right (by decide) (Nat.add_le_add_left (Nat.mul_le_mul_right _ (by omega)) _))
    · rw [List.length_map] at hno
      exact absurd (show ((ws.length : Nat) : Int) ≤ 40 by omega) hno
end
end Pl

set_option Elab.async false
set_option linter.all false
set_option maxRecDepth 100000
set_option maxHeartbeats 4000000
namespace Pl
open PySem PySem.Spec PyProof.Rows L2 RZ
section
variable {P : Program} {w : World} {K : PySem.W.Frag} {mg : Str → Option Value} {base : Heap}
def spQR (K : PySem.W.Frag) : Sp := fun vs H Q _ => ∃ (a b : Addr) (m k top : Nat) (xs ds : List Int), vs = [.ref a, .ref b] ∧ Sq K H a (xs.map V.int) ∧ Sq K H b (ds.map V.int) ∧ ds.length = top + 1 ∧ ds.getD top 0 = 1 ∧ top ≤ 39 ∧ xs.length ≤ 10000 ∧
  (∀ x ∈ xs, x.natAbs < 2 ^ m) ∧ (∀ d ∈ ds, d.natAbs < 2 ^ k) ∧ m + (xs.length + 1) * (k + 1) ≤ 900000 ∧ (m + xs.length * (k + 1) + k + 20) * (xs.length + 1 + ds.length) ≤ 600000 ∧
  ∀ H' t p r qs rs, Same H H' → SqT K H' t [.ref p, .ref r] → H' p = some (.lst (qs.map V.int)) → H' r = some (.lst (rs.map V.int)) → List.length qs = xs.length - top → List.length rs ≤ top → (∀ w, val xs w = val qs w * val ds w + val rs w) → (∀ x ∈ qs, Int.natAbs x < 2 ^ (m + xs.length * (k + 1))) → Q (.ref t) H'
theorem ok_quotient_and_rest (T : Txt K mg) : FnOk P w K mg base CX0 6 (He.fAd K ("quotient_and_rest", none)) T.d_quotient_and_rest ["entries", "divisor"] (spQR K) := by
  refine FunD.ok T.fn_quotient_and_rest sc_quotient_and_rest (fun vs H Q E h => ?_) (fun cdv A outer s H vs Q E hr h => ?_)
  · obtain ⟨a, b, m, k, top, xs, ds, rfl, _⟩ := h
    rfl
  · obtain ⟨a, b, m, k, top, xs, ds, rfl, ha, hb, hdl, hmon, htop, hxl, hx, hd, hB, hB2, q⟩ := h
    refine ⟨_, PSs.nox (pss_cons (ps_set (i := 2) sc_quotient_and_rest.nd rfl (Or.inl rfl) (pe_call (ok_quotient T) (hr.mono (by decide)) (by rfl) T.m_quotient T.fn_quotient.kp T.b_quotient .nil pass0 (pa_cons (pv 0) (pa_cons (pv 1) pa_nil))))
  (pss_cons (ps_set (i := 3) sc_quotient_and_rest.nd rfl (Or.inl rfl) (pe_call (ok_product T) (hr.mono (by decide)) (by rfl) T.m_product T.fn_product.kp T.b_product .nil pass0 (pa_cons (pv 2) (pa_cons (pv 1) pa_nil))))
  (pss_one (ps_ret (pe_tupK (K := K) (pa_cons (pv 2) (pa_cons (pe_slice (sl_listK (K := K)) (pe_call (ok_added T) (hr.mono (by decide)) (by rfl) T.m_added T.fn_added.kp T.b_added .nil pass0 (pa_cons (pv 0) (pa_cons (pe_call (ok_negated T) (hr.mono (by decide)) (by rfl) T.m_negated T.fn_negated.kp T.b_negated .nil pass0 (pa_cons (pv 3) pa_nil)) pa_nil))) po_none (po_some (pe_op op_sub (pe_callB (call_lenK (K := K)) (by rfl) T.z_len PySem.boot_len (pa_cons (pv 1) pa_nil)) pe_int))) pa_nil))))))), ?_⟩
    refine ⟨_, rfl, _, rfl, a, b, m, k, top, xs, ds, rfl, ha, hb, hdl, hmon, htop, hxl, hx, hd, hB, fun H1 p1 qs r s1 e1 hql hrl hv hqs => ?_⟩
    refine ⟨_, rfl, _, rfl, p1, b, m + xs.length * (k + 1), k, qs, ds, rfl, .inl (SqL.of e1), s1.sq hb, hqs, hd, Nat.le_trans (Nat.mul_le_mul_left _ (by omega)) hB2, fun H2 p2 s2 e2 => ?_⟩
    have s02 := s1.trans s2
    have lp := prodL_length qs ds
    refine ⟨_, rfl, _, rfl, _, rfl, p2, _, rfl, .inl (SqL.of e2), by omega, fun H3 p3 s3 e3 => ?_⟩
    have ln : (negL (prodL qs ds)).length = (prodL qs ds).length := by unfold negL; rw [List.length_map]
    refine ⟨a, p3, xs, _, rfl, (s02.trans s3).sq ha, .inl (SqL.of e3), by omega, by omega, fun H4 p4 s4 e4 => ?_⟩
    have s04 := s02.trans (s3.trans s4)
    refine ⟨_, rfl, _, _, rfl, s04.sq hb, _, _, rfl, rfl, _, rfl, p4, _, rfl, SqL.of e4, fun H5 p5 s5 n5 e5 => ?_⟩
    have etop : (((ds.map V.int).length : Nat) : Int) - 1 = ((top : Nat) : Int) := by rw [List.length_map, hdl]; omega
    rw [etop, cut_to, ← List.map_take] at e5
    have hget : ∀ n, (addL xs (negL (prodL qs ds))).getD n 0 = r.getD n 0 := val_inj fun w => by
      rw [val_addL, val_negL', val_prodL, hv w]
      omega
    refine ⟨by show 2 ≤ sizeLine; exact small (by omega), fun H6 t s6 hT => ?_⟩
    have s16 := ((s2.trans (s3.trans s4)).trans s5).trans s6
    refine q H6 t p1 p5 qs _ ((s04.trans s5).trans s6) hT (s16 _ _ e1) (s6 _ _ e5) hql (by rw [List.length_take]; omega) (fun w => ?_) hqs
    rw [hv w]
    congr 1
    refine val_congr w top _ _ hrl (by rw [List.length_take]; omega) fun n => ?_
    rw [take_get]
    split
    · exact (hget n).symm
    · rw [List.getD_eq_getElem?_getD, List.getElem?_eq_none (by omega)]
      rfl
def spRest (K : PySem.W.Frag) : Sp := fun vs H Q _ => ∃ (a b : Addr) (m k top : Nat) (xs ds : List Int), vs = [.ref a, .ref b] ∧ Sq K H a (xs.map V.int) ∧ Sq K H b (ds.map V.int) ∧ ds.length = top + 1 ∧ ds.getD top 0 = 1 ∧ top ≤ 39 ∧ xs.length ≤ 10000 ∧
  (∀ x ∈ xs, x.natAbs < 2 ^ m) ∧ (∀ d ∈ ds, d.natAbs < 2 ^ k) ∧ m + (xs.length + 1) * (k + 1) ≤ 900000 ∧ (m + xs.length * (k + 1) + k + 20) * (xs.length + 1 + ds.length) ≤ 600000 ∧
  ∀ H' p qs rs, Same H H' → H' p = some (.lst (rs.map V.int)) → List.length rs ≤ top → (∀ w, val xs w = val qs w * val ds w + val rs w) → Q (.ref p) H'
theorem ok_rest_row (T : Txt K mg) : FnOk P w K mg base CX0 7 (He.fAd K ("rest_row", none)) T.d_rest_row ["entries", "divisor"] (spRest K) := by
  refine FunD.ok T.fn_rest_row sc_rest_row (fun vs H Q E h => ?_) (fun cdv A outer s H vs Q E hr h => ?_)
  · obtain ⟨a, b, m, k, top, xs, ds, rfl, _⟩ := h
    rfl
  · obtain ⟨a, b, m, k, top, xs, ds, rfl, ha, hb, hdl, hmon, htop, hxl, hx, hd, hB, hB2, q⟩ := h
    refine ⟨_, PSs.nox (pss_one (ps_ret (pe_ix (ix_tupK (K := K)) (pe_call (ok_quotient_and_rest T) (hr.mono (by decide)) (by rfl) T.m_quotient_and_rest T.fn_quotient_and_rest.kp T.b_quotient_and_rest .nil pass0 (pa_cons (pv 0) (pa_cons (pv 1) pa_nil))) pe_int (fun _ _ => rfl)))), ?_⟩
    refine ⟨_, rfl, _, rfl, a, b, m, k, top, xs, ds, rfl, ha, hb, hdl, hmon, htop, hxl, hx, hd, hB, hB2, fun H1 t p r qs rs s1 hT ep er hql hrl hv hqs => ?_⟩
    exact ⟨_, _, _, _, rfl, rfl, hT, atI_nat (j := 1) rfl, q H1 r qs rs s1 er hrl hv⟩
/-- what a new row's __init__ leaves -/
def spInit (K : PySem.W.Frag) : Sp := fun vs H Q _ => ∃ (x a dx : Addr) (xs : List Int), vs = [.ref x, .ref a] ∧ H x = some (.ins (He.ga K "Row") dx []) ∧ Sq K H a (xs.map V.int) ∧ xs.length ≤ 1000000 ∧
  ∀ H' t, SameBut x H H' → H' x = some (.ins (He.ga K "Row") dx (RowF t)) → SqT K H' t ((stp xs).map V.int) → Q .non H'
theorem ok_Row___init__ (T : Txt K mg) : FnOk P w K mg base CX0 2 (He.fAd K ("Row", some "__init__")) T.d_Row___init__ ["self", "entries"] (spInit K) := by
  refine FunD.ok T.fn_Row___init__ sc_Row___init__ (fun vs H Q E h => ?_) (fun cdv A outer s H vs Q E hr h => ?_)
  · obtain ⟨x, a, dx, xs, rfl, _⟩ := h
    rfl
  · obtain ⟨x, a, dx, xs, rfl, hx, hS, hl, q⟩ := h
    refine ⟨_, PSs.nox (pss_one (ps_fld (pv 0) (pe_call (ok_stripped T) (hr.mono (by decide)) (by rfl) T.m_stripped T.fn_stripped.kp T.b_stripped .nil pass0 (pa_cons (pv 1) pa_nil)) rfl)), ?_⟩
    refine ⟨_, rfl, a, xs, rfl, hS, hl, fun H1 t s1 hT => ?_⟩
    refine ⟨_, rfl, _, _, _, _, rfl, s1 _ _ hx, T.cl_Row, T.n_Row_entries, (by show 0 < 1000; decide), ?_⟩
    refine q _ t (fun b o n e => ?_) upd_same ?_
    · rw [upd_ne n]
      exact s1 _ _ e
    · rcases hT with (hT | ⟨o, hT⟩) | hT
      · exact .inl (.inl (by rw [upd_ne (ne_of hT (s1 _ _ hx) (by intro z; cases z))]; exact hT))
      · exact .inl (.inr ⟨o, by rw [upd_ne (ne_of hT (s1 _ _ hx) (by intro z; cases z))]; exact hT⟩)
      · exact .inr hT
/-- a row made -/
theorem mk_row {K : PySem.W.Frag} {H : Hp} {a : Addr} {xs : List Int} {Q : VK} {E : XK} (hS : Sq K H a (xs.map V.int)) (hl : xs.length ≤ 1000000) (q : ∀ H' p, Same H H' → RowAt K H' p (stp xs) → Q (.ref p) H') :
    ∀ x dx, H x = none → H dx = none → dx ≠ x → spInit K (.ref x :: ([.ref a] ++ [])) (upd (upd H dx (.own x)) x (.ins (He.ga K "Row") dx [])) (fun v H2 => v = .non ∧ Q (.ref x) H2) E := by
  intro x dx nx ndx ne
  have s0 : Same H (upd (upd H dx (.own x)) x (.ins (He.ga K "Row") dx [])) := (same_upd ndx).upd (by rw [upd_ne ne.symm]; exact nx)
  refine ⟨x, a, dx, xs, rfl, upd_same, s0.sq hS, hl, fun H' t b e hT => ⟨rfl, q H' x (s0.but nx b) ⟨dx, t, e, hT⟩⟩⟩
theorem mk_row0 {K : PySem.W.Frag} {H : Hp} {a : Addr} {xs : List Int} {Q : VK} {E : XK} (hS : Sq K H a (xs.map V.int)) (hl : xs.length ≤ 1000000) (q : ∀ H' p, Same H H' → RowAt K H' p (stp xs) → Q (.ref p) H') :
    ∀ x dx, H x = none → H dx = none → dx ≠ x → spInit K (.ref x :: ([] ++ [.ref a])) (upd (upd H dx (.own x)) x (.ins (He.ga K "Row") dx [])) (fun v H2 => v = .non ∧ Q (.ref x) H2) E := mk_row hS hl q
/-- Row(e): a new row -/
def tRow (K : PySem.W.Frag) (t : TA) : TE := fun σ H Q => t σ H fun vs H1 => ∃ (a : Addr) (xs : List Int), vs = [.ref a] ∧ Sq K H1 a (xs.map V.int) ∧ xs.length ≤ 1000000 ∧ ∀ H' p, Same H1 H' → RowAt K H' p (stp xs) → Q (.ref p) H'
def tRow0 (K : PySem.W.Frag) : TE := fun σ H Q => ∀ H' p, Same H H' → RowAt K H' p [] → Q (.ref p) H'
theorem pe_row {X : Cx} {e : Expr} {es : List Expr} {t : TA} {p pos : Pos} (hK : X.K = K) (T : Txt X.K X.mg) (hr : Room (2 + 1) X.A) (hg : Gl X "Row") (ha : PA X (e :: es) t)
    (he : starEach (e :: es) X.env = (false, eval e X.env) :: starEach es X.env := by rfl) (hpl : (backTo pos (starEach es X.env)).any (·.1) = false := by rfl) : PE X (.Call (.Name "Row" p) (e :: es) [] pos) (tRow K t) := by
  subst hK
  refine (pe_make (E := E0) T.M_Row (ok_Row___init__ T) hr hg T.m_Row T.b_Row___init__ .nil pass0 ha.up (by decide) he hpl).imp fun σ H Q h => ⟨_, h, fun vs H1 ⟨a, xs, e, hS, hl, q⟩ => ?_⟩
  subst e
  exact mk_row hS hl q
theorem pe_row0 {X : Cx} {p pos : Pos} (hK : X.K = K) (T : Txt X.K X.mg) (hr : Room (2 + 1) X.A) (hg : Gl X "Row") : PE X (.Call (.Name "Row" p) [] [] pos) (tRow0 K) := by
  subst hK
  exact (pe_make0 (E := E0) T.M_Row (ok_Row___init__ T) hr hg T.m_Row T.bd_Row___init__.choose_spec.2 T.bd_Row___init__.choose_spec.1 pass0 (by decide)).imp fun σ H Q h => mk_row0 (xs := []) (.inr (tupB0_ok T.dt_Row___init__ _)) (Nat.zero_le _) h
theorem at_last {xs : List Int} {n : Nat} (h : xs.length = n + 1) : atI (xs.map V.int) (-1) = some (.int (xs.getD n 0)) := by
  unfold atI ixN
  rw [List.length_map, h, if_neg (by decide), if_pos (by omega)]
  show (xs.map V.int)[(-1 + ((n + 1 : Nat) : Int)).toNat]? = _
  rw [show (-1 + ((n + 1 : Nat) : Int)).toNat = n by omega, List.getElem?_map, get_of (by omega)]
  rfl
def spMonic (K : PySem.W.Frag) : Sp := fun vs H Q _ => ∃ (p : Addr) (top : Nat) (ds : List Int), vs = [.ref p] ∧ RowAt K H p ds ∧ ds.length = top + 1 ∧ ds.getD top 0 = 1 ∧ Q .non H
theorem ok__check_monic (T : Txt K mg) : FnOk P w K mg base CX0 1 (He.fAd K ("_check_monic", none)) T.d__check_monic ["row"] (spMonic K) := by
  refine FunD.ok T.fn__check_monic sc__check_monic (fun vs H Q E h => ?_) (fun cdv A outer s H vs Q E hr h => ?_)
  · obtain ⟨p, top, ds, rfl, _⟩ := h
    rfl
  · obtain ⟨p, top, ds, rfl, ⟨dx, t, hp, hT⟩, hl, hm, q⟩ := h
    refine ⟨_, PSs.nox (pss_one (ps_if (PW.pt (pw_or (pt_cmpR op_eq (pe_callB (call_lenK (K := K)) (by rfl) T.z_len PySem.boot_len (pa_cons (pe_fldK (K := K) (pv 0) rfl) pa_nil)) pe_int (nomark _)) (pw_or1 (pt_cmpR op_ne (pe_ix (ix_tupK (K := K)) (pe_fldK (K := K) (pv 0) rfl) (pe_un un_neg pe_int) (fun _ _ => rfl)) pe_int (nomark _)))))
  (pss_one ps_never)
  pss_nil)), ?_⟩
    refine ⟨_, rfl, _, _, _, _, _, rfl, hp, T.cl_Row, T.n_Row_entries, rowF_look _, _, _, rfl, .inr hT, rfl, _, rfl, ?_⟩
    rw [List.length_map, hl, decide_eq_false (fun z => by have := V.int.inj z; omega)]
    refine iteF ⟨_, rfl, _, _, _, _, _, rfl, hp, T.cl_Row, T.n_Row_entries, rowF_look _, _, rfl, _, _, _, _, rfl, rfl, hT, at_last hl, rfl, _, rfl, iteNS (by rw [hm]) q⟩
def spFDiv (K : PySem.W.Frag) : Sp := fun vs H Q _ => ∃ (p r : Addr) (m k top : Nat) (xs ds : List Int), vs = [.ref p, .ref r] ∧ RowAt K H p xs ∧ RowAt K H r ds ∧ ds.length = top + 1 ∧ ds.getD top 0 = 1 ∧ top ≤ 39 ∧ xs.length ≤ 10000 ∧
  (∀ x ∈ xs, x.natAbs < 2 ^ m) ∧ (∀ d ∈ ds, d.natAbs < 2 ^ k) ∧ m + (xs.length + 1) * (k + 1) ≤ 900000 ∧
  ∀ H' u qs r, Same H H' → RowAt K H' u (stp qs) → qs.length = xs.length - top → List.length r ≤ top → (∀ w, val xs w = val qs w * val ds w + val r w) → (∀ x ∈ qs, Int.natAbs x < 2 ^ (m + xs.length * (k + 1))) → Q (.ref u) H'
theorem ok_Row___floordiv__ (T : Txt K mg) : FnOk P w K mg base CX0 6 (He.fAd K ("Row", some "__floordiv__")) T.d_Row___floordiv__ ["self", "other"] (spFDiv K) := by
  refine FunD.ok T.fn_Row___floordiv__ sc_Row___floordiv__ (fun vs H Q E h => ?_) (fun cdv A outer s H vs Q E hr h => ?_)
  · obtain ⟨p, r, m, k, top, xs, ds, rfl, _⟩ := h
    rfl
  · obtain ⟨p, r, m, k, top, xs, ds, rfl, hP, hD, hdl, hmon, htop, hxl, hx, hd, hB, q⟩ := h
    obtain ⟨dx, t, hp, hT⟩ := id hP
    obtain ⟨dy, u, hr', hU⟩ := id hD
    refine ⟨_, PSs.nox (pss_cons (ps_expr (pe_call (ok__check_monic T) (hr.mono (by decide)) (by rfl) T.m__check_monic T.fn__check_monic.kp T.b__check_monic .nil pass0 (pa_cons (pv 1) pa_nil)))
  (pss_one (ps_ret (pe_row (K := K) rfl T (hr.mono (by decide)) (by rfl) (pa_cons (pe_call (ok_quotient T) (hr.mono (by decide)) (by rfl) T.m_quotient T.fn_quotient.kp T.b_quotient .nil pass0 (pa_cons (pe_fldK (K := K) (pv 0) rfl) (pa_cons (pe_fldK (K := K) (pv 1) rfl) pa_nil))) pa_nil))))), ?_⟩
    refine ⟨_, rfl, r, top, ds, rfl, hD, hdl, hmon, ?_⟩
    refine ⟨_, rfl, _, _, _, _, _, rfl, hp, T.cl_Row, T.n_Row_entries, rowF_look _, _, rfl, _, _, _, _, _, rfl, hr', T.cl_Row, T.n_Row_entries, rowF_look _, t, u, m, k, top, xs, ds, rfl, .inr hT, .inr hU, hdl, hmon, htop, hxl, hx, hd, hB, fun H1 l qs r' s1 e1 hq hrl hv hs => ?_⟩
    exact ⟨l, qs, rfl, .inl (SqL.of e1), by omega, fun H2 v s2 hR => q H2 v qs r' (s1.trans s2) hR hq hrl hv hs⟩
def spMod (K : PySem.W.Frag) : Sp := fun vs H Q _ => ∃ (p r : Addr) (m k top : Nat) (xs ds : List Int), vs = [.ref p, .ref r] ∧ RowAt K H p xs ∧ RowAt K H r ds ∧ ds.length = top + 1 ∧ ds.getD top 0 = 1 ∧ top ≤ 39 ∧ xs.length ≤ 10000 ∧
  (∀ x ∈ xs, x.natAbs < 2 ^ m) ∧ (∀ d ∈ ds, d.natAbs < 2 ^ k) ∧ m + (xs.length + 1) * (k + 1) ≤ 900000 ∧ (m + xs.length * (k + 1) + k + 20) * (xs.length + 1 + ds.length) ≤ 600000 ∧
  ∀ H' u qs rs, Same H H' → RowAt K H' u (stp rs) → List.length rs ≤ top → (∀ w, val xs w = val qs w * val ds w + val rs w) → Q (.ref u) H'
theorem ok_Row___mod__ (T : Txt K mg) : FnOk P w K mg base CX0 8 (He.fAd K ("Row", some "__mod__")) T.d_Row___mod__ ["self", "other"] (spMod K) := by
  refine FunD.ok T.fn_Row___mod__ sc_Row___mod__ (fun vs H Q E h => ?_) (fun cdv A outer s H vs Q E hr h => ?_)
  · obtain ⟨p, r, m, k, top, xs, ds, rfl, _⟩ := h
    rfl
  · obtain ⟨p, r, m, k, top, xs, ds, rfl, hP, hD, hdl, hmon, htop, hxl, hx, hd, hB, hB2, q⟩ := h
    obtain ⟨dx, t, hp, hT⟩ := id hP
    obtain ⟨dy, u, hr', hU⟩ := id hD
    refine ⟨_, PSs.nox (pss_cons (ps_expr (pe_call (ok__check_monic T) (hr.mono (by decide)) (by rfl) T.m__check_monic T.fn__check_monic.kp T.b__check_monic .nil pass0 (pa_cons (pv 1) pa_nil)))
  (pss_one (ps_ret (pe_row (K := K) rfl T (hr.mono (by decide)) (by rfl) (pa_cons (pe_call (ok_rest_row T) (hr.mono (by decide)) (by rfl) T.m_rest_row T.fn_rest_row.kp T.b_rest_row .nil pass0 (pa_cons (pe_fldK (K := K) (pv 0) rfl) (pa_cons (pe_fldK (K := K) (pv 1) rfl) pa_nil))) pa_nil))))), ?_⟩
    refine ⟨_, rfl, r, top, ds, rfl, hD, hdl, hmon, ?_⟩
    refine ⟨_, rfl, _, _, _, _, _, rfl, hp, T.cl_Row, T.n_Row_entries, rowF_look _, _, rfl, _, _, _, _, _, rfl, hr', T.cl_Row, T.n_Row_entries, rowF_look _, t, u, m, k, top, xs, ds, rfl, .inr hT, .inr hU, hdl, hmon, htop, hxl, hx, hd, hB, hB2, fun H1 l qs rs s1 e1 hrl hv => ?_⟩
    exact ⟨l, rs, rfl, .inl (SqL.of e1), by omega, fun H2 v s2 hR => q H2 v qs rs (s1.trans s2) hR hrl hv⟩
end
end Pl

set_option Elab.async false
set_option linter.all false
set_option maxRecDepth 100000
set_option maxHeartbeats 4000000
namespace Pl
open PySem PySem.Spec PyProof.Rows L2 RZ
section
variable {P : Program} {w : World} {K : PySem.W.Frag} {mg : Str → Option Value} {base : Heap}
def PackF (w n : Int) : List (Str × V) := [("width", .int w), ("number", .int n)]
theorem packF_put (w n : Int) : putF "number" (.int n) (putF "width" (.int w) []) = PackF w n := by
  show (if ("width" : Str) = "number" then [(("width" : Str), V.int n)] else (("width" : Str), V.int w) :: putF "number" (V.int n) []) = _
  rw [if_neg (by decide +kernel)]
  rfl
theorem packF_w (w n : Int) : (PackF w n).lookup ("width" : Str) = some (.int w) := by simp [PackF, List.lookup]
theorem packF_n (w n : Int) : (PackF w n).lookup ("number" : Str) = some (.int n) := by
  unfold PackF
  rw [List.lookup_cons, show (("number" : Str) == "width") = false by decide +kernel]
  simp [List.lookup]
theorem packF_none (w n : Int) {m : Str} (h : (m == ("width" : Str)) = false) (h2 : (m == ("number" : Str)) = false) : (PackF w n).lookup m = none := by
  unfold PackF
  rw [List.lookup_cons, h]
  show List.lookup m [("number", V.int n)] = none
  rw [List.lookup_cons, h2]
  rfl
def PackAt (K : PySem.W.Frag) (H : Hp) (p : Addr) (w : Nat) (n : Int) : Prop := ∃ dx, H p = some (.ins (He.ga K "Pack") dx (PackF w n))
theorem PackAt.same {K : PySem.W.Frag} {H H' : Hp} {p : Addr} {w : Nat} {n : Int} (s : Same H H') (h : PackAt K H p w n) : PackAt K H' p w n := by
  obtain ⟨dx, h1⟩ := h
  exact ⟨dx, s _ _ h1⟩
theorem PackAt.keep {K : PySem.W.Frag} {H H' : Hp} {p : Addr} {w : Nat} {n : Int} (s : Keep H H') (h : PackAt K H p w n) : PackAt K H' p w n := by
  obtain ⟨dx, h1⟩ := h
  exact ⟨dx, s.ins h1⟩
def spPInit (K : PySem.W.Frag) : Sp := fun vs H Q _ => ∃ (x dx : Addr) (w : Nat) (n : Int), vs = [.ref x, .int w, .int n] ∧ H x = some (.ins (He.ga K "Pack") dx []) ∧ 1 ≤ w ∧ ∀ H', SameBut x H H' → H' x = some (.ins (He.ga K "Pack") dx (PackF w n)) → Q .non H'
theorem ok_Pack___init__ (T : Txt K mg) : FnOk P w K mg base CX0 2 (He.fAd K ("Pack", some "__init__")) T.d_Pack___init__ ["self", "width", "number"] (spPInit K) := by
  refine FunD.ok T.fn_Pack___init__ sc_Pack___init__ (fun vs H Q E h => ?_) (fun cdv A outer s H vs Q E hr h => ?_)
  · obtain ⟨x, dx, w, n, rfl, _⟩ := h
    rfl
  · obtain ⟨x, dx, w, n, rfl, hx, hw, q⟩ := h
    refine ⟨_, PSs.nox (pss_cons (ps_expr (pe_call (ok_check_width T) (hr.mono (by decide)) (by rfl) T.m_check_width T.fn_check_width.kp T.b_check_width .nil pass0 (pa_cons (pv 1) pa_nil)))
  (pss_cons (ps_fld (pv 0) (pv 1) rfl)
  (pss_one (ps_fld (pv 0) (pv 2) rfl)))), ?_⟩
    refine ⟨_, rfl, _, rfl, by omega, ?_⟩
    refine ⟨_, rfl, _, rfl, _, _, _, _, rfl, hx, T.cl_Pack, T.n_Pack_width, (by show 0 < 1000; decide), ?_⟩
    refine ⟨_, rfl, _, rfl, _, _, _, _, rfl, upd_same, T.cl_Pack, T.n_Pack_number, (by show 1 < 1000; decide), ?_⟩
    refine q _ (fun b o nb e => ?_) ?_
    · rw [upd_ne nb, upd_ne nb]
      exact e
    · rw [upd_same, packF_put]
def tPack (K : PySem.W.Frag) (t : TA) : TE := fun σ H Q => t σ H fun vs H1 => ∃ (w : Nat) (n : Int), vs = [.int w, .int n] ∧ 1 ≤ w ∧ ∀ H' p, Same H1 H' → PackAt K H' p w n → Q (.ref p) H'
theorem pe_pack {X : Cx} {e : Expr} {es : List Expr} {t : TA} {p pos : Pos} (hK : X.K = K) (T : Txt X.K X.mg) (hr : Room (2 + 1) X.A) (hg : Gl X "Pack") (ha : PA X (e :: es) t)
    (he : starEach (e :: es) X.env = (false, eval e X.env) :: starEach es X.env := by rfl) (hpl : (backTo pos (starEach es X.env)).any (·.1) = false := by rfl) : PE X (.Call (.Name "Pack" p) (e :: es) [] pos) (tPack K t) := by
  subst hK
  refine (pe_make (E := E0) T.M_Pack (ok_Pack___init__ T) hr hg T.m_Pack T.b_Pack___init__ .nil pass0 ha.up (by decide) he hpl).imp fun σ H Q h => ⟨_, h, fun vs H1 ⟨w, n, e, hw, q⟩ => ?_⟩
  subst e
  intro x dx nx ndx ne
  have s0 : Same H1 (upd (upd H1 dx (.own x)) x (.ins (He.ga X.K "Pack") dx [])) := (same_upd ndx).upd (by rw [upd_ne ne.symm]; exact nx)
  exact ⟨x, dx, w, n, rfl, upd_same, hw, fun H' b e => ⟨rfl, q H' x (s0.but nx b) ⟨dx, e⟩⟩⟩
def spRAt (K : PySem.W.Frag) : Sp := fun vs H Q _ => ∃ (p : Addr) (w m : Nat) (xs : List Int), vs = [.ref p, .int w] ∧ RowAt K H p xs ∧ xs.length ≤ 100000 ∧ (∀ x ∈ xs, x.natAbs < 2 ^ m) ∧ 1 ≤ w ∧ m + 3 * (w * xs.length) + 3 * w ≤ 130000000 ∧ ∀ H', Same H H' → Q (.int (val xs w)) H'
theorem ok_Row_at (T : Txt K mg) : FnOk P w K mg base CX0 2 (He.fAd K ("Row", some "at")) T.d_Row_at ["self", "width"] (spRAt K) := by
  refine FunD.ok T.fn_Row_at sc_Row_at (fun vs H Q E h => ?_) (fun cdv A outer s H vs Q E hr h => ?_)
  · obtain ⟨p, w, m, xs, rfl, _⟩ := h
    rfl
  · obtain ⟨p, w, m, xs, rfl, ⟨dx, t, hp, hT⟩, hl, hm, hw, hb, q⟩ := h
    refine ⟨_, PSs.nox (pss_cons (ps_expr (pe_call (ok_check_width T) (hr.mono (by decide)) (by rfl) T.m_check_width T.fn_check_width.kp T.b_check_width .nil pass0 (pa_cons (pv 1) pa_nil)))
  (pss_one (ps_ret (pe_call (ok_joined T) (hr.mono (by decide)) (by rfl) T.m_joined T.fn_joined.kp T.b_joined .nil pass0 (pa_cons (pe_fldK (K := K) (pv 0) rfl) (pa_cons (pv 1) pa_nil)))))), ?_⟩
    refine ⟨_, rfl, _, rfl, by omega, ?_⟩
    exact ⟨_, rfl, _, _, _, _, _, rfl, hp, T.cl_Row, T.n_Row_entries, rowF_look _, _, rfl, t, w, m, xs, rfl, .inr hT, hl, hm, hw, hb, q⟩
def spPacked (K : PySem.W.Frag) : Sp := fun vs H Q _ => ∃ (p : Addr) (w m : Nat) (xs : List Int), vs = [.ref p, .int w] ∧ RowAt K H p xs ∧ xs.length ≤ 100000 ∧ (∀ x ∈ xs, x.natAbs < 2 ^ m) ∧ 1 ≤ w ∧ m + 3 * (w * xs.length) + 3 * w ≤ 130000000 ∧ ∀ H' u, Same H H' → PackAt K H' u w (val xs w) → Q (.ref u) H'
theorem ok_packed (T : Txt K mg) : FnOk P w K mg base CX0 4 (He.fAd K ("packed", none)) T.d_packed ["row", "width"] (spPacked K) := by
  refine FunD.ok T.fn_packed sc_packed (fun vs H Q E h => ?_) (fun cdv A outer s H vs Q E hr h => ?_)
  · obtain ⟨p, w, m, xs, rfl, _⟩ := h
    rfl
  · obtain ⟨p, w, m, xs, rfl, hR, hl, hm, hw, hb, q⟩ := h
    obtain ⟨dx, t, hp, hT⟩ := id hR
    refine ⟨_, PSs.nox (pss_one (ps_ret (pe_pack (K := K) rfl T (hr.mono (by decide)) (by rfl) (pa_cons (pv 1) (pa_cons (pe_meth (pv 0) T.cl_Row T.h_Row_at (ok_Row_at T) (hr.mono (by decide)) T.b_Row_at .nil pass0 (pa_cons (pv 1) pa_nil)) pa_nil))))), ?_⟩
    refine ⟨_, rfl, _, rfl, p, dx, _, rfl, hp, rowF_none _ (by decide +kernel), _, rfl, p, w, m, xs, rfl, hR, hl, hm, hw, hb, fun H1 s1 => ?_⟩
    exact ⟨w, val xs w, rfl, hw, fun H2 u s2 hu => q H2 u (s1.trans s2) hu⟩
def spDivided (K : PySem.W.Frag) : Sp := fun vs H Q _ => ∃ n d : Int, vs = [.int n, .int d] ∧ 0 < d ∧ d.natAbs < 2 ^ 9000 ∧ ∀ H' p, Same H H' → SqT K H' p [.int (n / d), .int (n % d)] → Q (.ref p) H'
theorem ok_divided (T : Txt K mg) : FnOk P w K mg base CX0 2 (He.fAd K ("divided", none)) T.d_divided ["number", "divisor"] (spDivided K) := by
  refine FunD.ok T.fn_divided sc_divided (fun vs H Q E h => ?_) (fun cdv A outer s H vs Q E hr h => ?_)
  · obtain ⟨n, d, rfl, _⟩ := h
    rfl
  · obtain ⟨n, d, rfl, hd, hs, q⟩ := h
    refine ⟨_, PSs.nox (pss_cons (ps_set (i := 2) sc_divided.nd rfl (Or.inl rfl) (pe_bits (pv 1)))
  (pss_cons (ps_set (i := 3) sc_divided.nd rfl (Or.inl rfl) (pe_op op_sub (pe_bits (pv 0)) (pv 2)))
  (pss_cons (ps_if (pt_cmpR op_le (pe_callB (call_min2 rfl) (by rfl) T.z_min (by decide +kernel) (pa_cons (pv 3) (pa_cons (pv 2) pa_nil))) (pe_glob (v := .int 10000) rfl T.g__SHORT_BITS.choose_spec ⟨_, rfl⟩) (nomark _))
  (pss_one (ps_ret (pe_callB call_divmodW (by rfl) T.z_divmod (by decide +kernel) (pa_cons (pv 0) (pa_cons (pv 1) pa_nil)))))
  pss_nil)
  (pss_cons ps_never
  (pss_cons ps_never
  (pss_cons ps_never
  (pss_cons ps_never
  (pss_cons ps_never
  (pss_one ps_never))))))))), ?_⟩
    refine ⟨_, rfl, _, rfl, _, rfl, _, rfl, _, rfl, _, _, rfl, rfl, ?_⟩
    have hz : Builtin.Int.intBits d ≤ 9000 := by
      obtain ⟨N, hN, hs⟩ : ∃ N, N = 9000 ∧ d.natAbs < 2 ^ N := ⟨9000, rfl, hs⟩
      have := PyProof.Rows.intBits_le hs
      omega
    refine ⟨_, rfl, _, rfl, _, _, rfl, _, _, rfl, rfl, _, rfl, iteB (fun _ => ?_) fun hno => ?_⟩
    · refine ⟨_, rfl, _, rfl, n, d, rfl, ⟨hd, PyProof.noPylong_of_log2 ?_⟩, fun p hp => q _ p (same_upd hp) (.inl (.inl upd_same))⟩
      obtain ⟨N, hN, hs⟩ : ∃ N, N = 9000 ∧ d.natAbs < 2 ^ N := ⟨9000, rfl, hs⟩
      rw [← hN]
      exact (Nat.log2_lt (by omega)).mpr hs
    · refine absurd ?_ hno
      show (if ((Builtin.Int.intBits d : Nat) : Int) < _ then ((Builtin.Int.intBits d : Nat) : Int) else _) ≤ 10000
      split <;> omega
def spDivRow (K : PySem.W.Frag) : Sp := fun vs H Q _ => ∃ (p r : Addr) (w m : Nat) (n : Int) (ds : List Int), vs = [.ref p, .ref r] ∧ PackAt K H p w n ∧ RowAt K H r ds ∧ ds.length ≤ 100000 ∧ (∀ x ∈ ds, x.natAbs < 2 ^ m) ∧ 1 ≤ w ∧ m + 3 * (w * ds.length) + 3 * w ≤ 130000000 ∧ 1 ≤ val ds w ∧ (val ds w).natAbs < 2 ^ 9000 ∧
  ∀ H' p, Same H H' → SqT K H' p [.int (n / val ds w), .int (n % val ds w)] → Q (.ref p) H'
theorem ok__divided_by_row (T : Txt K mg) : FnOk P w K mg base CX0 4 (He.fAd K ("_divided_by_row", none)) T.d__divided_by_row ["pack", "row"] (spDivRow K) := by
  refine FunD.ok T.fn__divided_by_row sc__divided_by_row (fun vs H Q E h => ?_) (fun cdv A outer s H vs Q E hr h => ?_)
  · obtain ⟨p, r, w, m, n, ds, rfl, _⟩ := h
    rfl
  · obtain ⟨p, r, w, m, n, ds, rfl, hP, hR, hl, hm, hw, hb, h1, hs, q⟩ := h
    refine ⟨_, PSs.nox (pss_cons (ps_set (i := 2) sc__divided_by_row.nd rfl (Or.inl rfl) (pe_meth (pv 1) T.cl_Row T.h_Row_at (ok_Row_at T) (hr.mono (by decide)) T.b_Row_at .nil pass0 (pa_cons (pe_fldK (K := K) (pv 0) rfl) pa_nil)))
  (pss_cons (ps_if (pt_cmpR op_lt (pv 2) pe_int (nomark _))
  (pss_one ps_never)
  pss_nil)
  (pss_one (ps_ret (pe_call (ok_divided T) (hr.mono (by decide)) (by rfl) T.m_divided T.fn_divided.kp T.b_divided .nil pass0 (pa_cons (pe_fldK (K := K) (pv 0) rfl) (pa_cons (pv 2) pa_nil))))))), ?_⟩
    obtain ⟨dp, gp⟩ := id hP
    obtain ⟨dr, tr, gr, _⟩ := id hR
    refine ⟨_, rfl, r, dr, _, rfl, gr, rowF_none _ (by decide +kernel), _, rfl, _, _, _, _, _, rfl, gp, T.cl_Pack, T.n_Pack_width, packF_w _ _, r, w, m, ds, rfl, hR, hl, hm, hw, hb, fun H1 s1 => ?_⟩
    refine ⟨_, rfl, _, _, rfl, rfl, _, rfl, iteB (fun hlt => absurd hlt (by omega)) fun _ => ?_⟩
    exact ⟨_, rfl, _, _, _, _, _, rfl, s1 _ _ gp, T.cl_Pack, T.n_Pack_number, packF_n _ _, _, rfl, n, val ds w, rfl, by omega, hs, fun H2 p2 s2 h2 => q H2 p2 (s1.trans s2) h2⟩
def spPOver (K : PySem.W.Frag) : Sp := fun vs H Q _ => ∃ (p r : Addr) (w m : Nat) (n : Int) (ds : List Int), vs = [.ref p, .ref r] ∧ PackAt K H p w n ∧ RowAt K H r ds ∧ ds.length ≤ 100000 ∧ (∀ x ∈ ds, x.natAbs < 2 ^ m) ∧ 1 ≤ w ∧ m + 3 * (w * ds.length) + 3 * w ≤ 130000000 ∧ 1 ≤ val ds w ∧ (val ds w).natAbs < 2 ^ 9000 ∧
  ∀ H' u, Same H H' → PackAt K H' u w (n / val ds w) → Q (.ref u) H'
theorem ok_Pack_over (T : Txt K mg) : FnOk P w K mg base CX0 5 (He.fAd K ("Pack", some "over")) T.d_Pack_over ["self", "row"] (spPOver K) := by
  refine FunD.ok T.fn_Pack_over sc_Pack_over (fun vs H Q E h => ?_) (fun cdv A outer s H vs Q E hr h => ?_)
  · obtain ⟨p, r, w, m, n, ds, rfl, _⟩ := h
    rfl
  · obtain ⟨p, r, w, m, n, ds, rfl, hP, hR, hl, hm, hw, hb, h1, hs, q⟩ := h
    obtain ⟨dp, gp⟩ := id hP
    refine ⟨_, PSs.nox (pss_one (ps_ret (pe_pack (K := K) rfl T (hr.mono (by decide)) (by rfl) (pa_cons (pe_fldK (K := K) (pv 0) rfl) (pa_cons (pe_ix (ix_tupK (K := K)) (pe_call (ok__divided_by_row T) (hr.mono (by decide)) (by rfl) T.m__divided_by_row T.fn__divided_by_row.kp T.b__divided_by_row .nil pass0 (pa_cons (pv 0) (pa_cons (pv 1) pa_nil))) pe_int (fun _ _ => rfl)) pa_nil))))), ?_⟩
    refine ⟨_, rfl, _, _, _, _, _, rfl, gp, T.cl_Pack, T.n_Pack_width, packF_w _ _, _, rfl, _, rfl, p, r, w, m, n, ds, rfl, hP, hR, hl, hm, hw, hb, h1, hs, fun H1 t1 s1 e1 => ?_⟩
    exact ⟨_, _, _, _, rfl, rfl, e1, rfl, w, _, rfl, hw, fun H2 u s2 hu => q H2 u (s1.trans s2) hu⟩
def spPRest (K : PySem.W.Frag) : Sp := fun vs H Q _ => ∃ (p r : Addr) (w m : Nat) (n : Int) (ds : List Int), vs = [.ref p, .ref r] ∧ PackAt K H p w n ∧ RowAt K H r ds ∧ ds.length ≤ 100000 ∧ (∀ x ∈ ds, x.natAbs < 2 ^ m) ∧ 1 ≤ w ∧ m + 3 * (w * ds.length) + 3 * w ≤ 130000000 ∧ 1 ≤ val ds w ∧ (val ds w).natAbs < 2 ^ 9000 ∧
  ∀ H' u, Same H H' → PackAt K H' u w (n % val ds w) → Q (.ref u) H'
theorem ok_Pack_rest (T : Txt K mg) : FnOk P w K mg base CX0 5 (He.fAd K ("Pack", some "rest")) T.d_Pack_rest ["self", "row"] (spPRest K) := by
  refine FunD.ok T.fn_Pack_rest sc_Pack_rest (fun vs H Q E h => ?_) (fun cdv A outer s H vs Q E hr h => ?_)
  · obtain ⟨p, r, w, m, n, ds, rfl, _⟩ := h
    rfl
  · obtain ⟨p, r, w, m, n, ds, rfl, hP, hR, hl, hm, hw, hb, h1, hs, q⟩ := h
    obtain ⟨dp, gp⟩ := id hP
    refine ⟨_, PSs.nox (pss_one (ps_ret (pe_pack (K := K) rfl T (hr.mono (by decide)) (by rfl) (pa_cons (pe_fldK (K := K) (pv 0) rfl) (pa_cons (pe_ix (ix_tupK (K := K)) (pe_call (ok__divided_by_row T) (hr.mono (by decide)) (by rfl) T.m__divided_by_row T.fn__divided_by_row.kp T.b__divided_by_row .nil pass0 (pa_cons (pv 0) (pa_cons (pv 1) pa_nil))) pe_int (fun _ _ => rfl)) pa_nil))))), ?_⟩
    refine ⟨_, rfl, _, _, _, _, _, rfl, gp, T.cl_Pack, T.n_Pack_width, packF_w _ _, _, rfl, _, rfl, p, r, w, m, n, ds, rfl, hP, hR, hl, hm, hw, hb, h1, hs, fun H1 t1 s1 e1 => ?_⟩
    exact ⟨_, _, _, _, rfl, rfl, e1, rfl, w, _, rfl, hw, fun H2 u s2 hu => q H2 u (s1.trans s2) hu⟩
end
end Pl

set_option Elab.async false
set_option linter.all false
set_option maxRecDepth 100000
set_option maxHeartbeats 4000000
namespace Pl
open PySem PySem.Spec PyProof.Rows L2 RZ
section
variable {P : Program} {w : World} {K : PySem.W.Frag} {mg : Str → Option Value} {base : Heap}
def spStart (K : PySem.W.Frag) : Sp := fun vs H Q _ => ∃ (a : Addr) (ns : List Int), vs = [.ref a] ∧ SqL K H a (ns.map V.int) ∧ ns.length ≤ 63 ∧ ∀ H' pen c, Same H H' → Pn H' pen c 0 → Q (.ref pen) H'
theorem ok__law_start (T : Txt K mg) : FnOk P w K mg base CX0 1 (He.fAd K ("_law_start", none)) T.d__law_start ["script"] (spStart K) := by
  refine FunD.ok T.fn__law_start sc__law_start (fun vs H Q E h => ?_) (fun cdv A outer s H vs Q E hr h => ?_)
  · obtain ⟨a, ns, rfl, _⟩ := h
    rfl
  · obtain ⟨a, ns, rfl, hS, hl, q⟩ := h
    refine ⟨_, PSs.nox (pss_cons (ps_set (i := 1) sc__law_start.nd rfl (Or.inl rfl) pe_int)
  (pss_cons (ps_ifJ (pt_cmpR op_gt (pe_callB (call_lenK (K := K)) (by rfl) T.z_len PySem.boot_len (pa_cons (pv 0) pa_nil)) pe_int (nomark _))
  (pss_one (ps_set (i := 1) sc__law_start.nd rfl (Or.inl rfl) (pe_ix (ix_listK (K := K)) (pv 0) pe_int (fun _ _ => rfl))))
  pss_nil)
  (pss_one (ps_ret (pe_lstN (pa_cons (pe_callTy (call_listK (K := K)) (by rfl) T.z_list (by decide +kernel) (pa_cons (pv 0) pa_nil)) (pa_cons pe_int (pa_cons (pv 1) (pa_cons pe_int pa_nil))))))))), ?_⟩
    refine ⟨fun σ' H' => ∃ f : Int, σ' = [some (.ref a), some (.int f)] ∧ H' = H, ?_, ?_⟩
    · refine ⟨_, rfl, _, _, rfl, .inl hS, _, _, rfl, rfl, _, rfl, iteB (fun h => ?_) fun _ => ⟨0, rfl, rfl⟩⟩
      rw [List.length_map] at h
      refine ⟨_, rfl, _, _, _, _, rfl, rfl, hS, at_ints (n := 0) rfl (by omega), ns.getD 0 0, rfl, rfl⟩
    · rintro σ' H' ⟨f, rfl, rfl⟩
      refine ⟨_, rfl, _, _, rfl, .inl hS, fun H1 c s1 n1 e1 => ?_⟩
      refine ⟨_, rfl, by show 4 ≤ sizeLine; exact small (by omega), fun H2 pen s2 n2 e2 => ?_⟩
      exact q H2 pen c (s1.trans s2) ⟨ns, 1, f, 0, e2, s2 _ _ e1, hl, by omega, by omega, by omega⟩
theorem keep_pen {H : Hp} {pen c : Addr} {i x k : Int} {o : HO} (h : H pen = some (.lst [.ref c, .int i, .int x, .int k])) : Keep H (upd H pen o) := fun b u e n => by
  by_cases z : b = pen
  · subst z
    rw [h] at e
    cases e
    exact absurd ⟨_, _, _, _, rfl⟩ n
  · rw [upd_ne z]
    exact e
theorem pn_pen {H : Hp} {pen c : Addr} {zs : List Int} {i x k i' x' k' : Int} {m : Nat} (h : H pen = some (.lst [.ref c, .int i, .int x, .int k])) (hc : H c = some (.lst (zs.map V.int))) (hz : zs.length ≤ 63) (h1 : 1 ≤ i') (h2 : 0 ≤ k') (h3 : k' ≤ (m : Int)) :
    Pn (upd H pen (.lst [.ref c, .int i', .int x', .int k'])) pen c m := by
  refine ⟨zs, i', x', k', upd_same, ?_, hz, h1, h2, h3⟩
  rw [upd_ne]
  · exact hc
  · intro e
    subst e
    rw [h] at hc
    injection hc with hc
    injection hc with hc
    exact noPen_ints zs _ _ _ _ hc.symm
def spDraw : Sp := fun vs H Q _ => ∃ (pen c : Addr) (n : Nat) (m : Int), vs = [.ref pen, .int m] ∧ Pn H pen c n ∧ n ≤ 1000000000 ∧ 1 ≤ m ∧ m < 2 ^ 200 ∧ ∀ H' d, Keep H H' → Pn H' pen c (n + 1) → 0 ≤ d → d < m → Q (.int d) H'
theorem fmod_lo {a m : Int} (h : 1 ≤ m) : 0 ≤ a.fmod m := by
  rw [Int.fmod_eq_emod_of_nonneg a (by omega)]
  exact Int.emod_nonneg a (by omega)
theorem fmod_hi {a m : Int} (h : 1 ≤ m) : a.fmod m < m := by
  rw [Int.fmod_eq_emod_of_nonneg a (by omega)]
  exact Int.emod_lt_of_pos a (by omega)
theorem ok__law_draw (T : Txt K mg) : FnOk P w K mg base CX0 1 (He.fAd K ("_law_draw", none)) T.d__law_draw ["state", "many"] spDraw := by
  refine FunD.ok T.fn__law_draw sc__law_draw (fun vs H Q E h => ?_) (fun cdv A outer s H vs Q E hr h => ?_)
  · obtain ⟨pen, c, n, m, rfl, _⟩ := h
    rfl
  · obtain ⟨pen, c, n, m, rfl, ⟨zs, i, x, k, hp, hc, hz, hi, hk0, hk1⟩, hn, hm1, hm2, q⟩ := h
    refine ⟨_, PSs.nox (pss_cons (ps_if (pt_cmpR op_ge (pe_ix (ix_listK (K := K)) (pv 0) pe_int (fun _ _ => rfl)) (pe_op op_pow pe_int pe_int) (nomark _))
  (pss_cons (ps_set (i := 2) sc__law_draw.nd rfl (Or.inl rfl) (pe_op op_modN (pe_callTy call_int1 (by rfl) T.z_int (by decide +kernel) (pa_cons (pe_ix (ix_listK (K := K)) (pv 0) pe_int (fun _ _ => rfl)) pa_nil)) (pv 1)))
  (pss_cons (ps_asg (pe_op op_fdivW (pe_ix (ix_listK (K := K)) (pv 0) pe_int (fun _ _ => rfl)) (pv 1)) (pg_sub (pv 0) pe_int set_list))
  (pss_one (ps_ret (pv 2)))))
  pss_nil)
  (pss_cons (ps_asg (pe_op op_add (pe_ix (ix_listK (K := K)) (pv 0) pe_int (fun _ _ => rfl)) pe_int) (pg_sub (pv 0) pe_int set_list))
  (pss_cons (ps_set (i := 3) sc__law_draw.nd rfl (Or.inl rfl) (pe_op op_add (pe_op op_add (pe_op op_modN (pe_callTy call_int1 (by rfl) T.z_int (by decide +kernel) (pa_cons (pe_ix (ix_listK (K := K)) (pv 0) pe_int (fun _ _ => rfl)) pa_nil)) pe_int) (pe_op op_mul pe_int (pe_ix (ix_listK (K := K)) (pv 0) pe_int (fun _ _ => rfl)))) pe_int))
  (pss_cons (ps_set (i := 4) sc__law_draw.nd rfl (Or.inl rfl) (pe_op op_modN (pe_op op_pow (pv 3) pe_int) pe_int))
  (pss_cons (ps_ifJ (pt_cmpR op_lt (pe_ix (ix_listK (K := K)) (pv 0) pe_int (fun _ _ => rfl)) (pe_callB (call_lenK (K := K)) (by rfl) T.z_len PySem.boot_len (pa_cons (pe_ix (ix_listK (K := K)) (pv 0) pe_int (fun _ _ => rfl)) pa_nil)) (nomark _))
  (pss_cons (ps_asg (pe_ix (ix_listK (K := K)) (pe_ix (ix_listK (K := K)) (pv 0) pe_int (fun _ _ => rfl)) (pe_ix (ix_listK (K := K)) (pv 0) pe_int (fun _ _ => rfl)) (fun _ _ => rfl)) (pg_sub (pv 0) pe_int set_list))
  (pss_one (ps_asg (pe_op op_add (pe_ix (ix_listK (K := K)) (pv 0) pe_int (fun _ _ => rfl)) pe_int) (pg_sub (pv 0) pe_int set_list))))
  pss_nil)
  (pss_one (ps_ret (pe_op op_modN (pe_op op_fdivN (pe_callTy call_int1 (by rfl) T.z_int (by decide +kernel) (pa_cons (pv 4) pa_nil)) pe_int) (pv 1))))))))), ?_⟩
    refine ⟨_, rfl, _, _, _, _, rfl, rfl, SqL.of hp, atI_nat (j := 2) rfl, _, _, rfl, rfl, ⟨by decide, by decide, by decide⟩, _, _, rfl, rfl, _, rfl, iteB (fun _ => ?_) fun _ => ?_⟩
    · refine ⟨_, rfl, _, _, _, _, rfl, rfl, SqL.of hp, atI_nat (j := 2) rfl, .inl ⟨_, rfl, _, rfl, _, _, rfl, rfl, by omega, ?_⟩⟩
      refine ⟨_, rfl, _, _, _, _, rfl, rfl, SqL.of hp, atI_nat (j := 2) rfl, _, rfl, _, _, rfl, rfl, wide_div (b := 200) (by omega) (by omega) (by decide) (by decide), ?_⟩
      refine ⟨_, rfl, _, _, _, 2, rfl, rfl, hp, rfl, ?_⟩
      refine ⟨_, rfl, q _ _ (keep_pen hp) (pn_pen hp hc hz hi hk0 (by omega)) (fmod_lo hm1) (fmod_hi hm1)⟩
    · refine ⟨_, rfl, _, _, _, _, rfl, rfl, SqL.of hp, atI_nat (j := 3) rfl, _, _, rfl, rfl, ?_⟩
      refine ⟨_, rfl, _, _, _, 3, rfl, rfl, hp, rfl, ?_⟩
      have h1 : (upd H pen (.lst ([V.ref c, .int i, .int x, .int k].set 3 (.int (k + 1))))) pen = some (.lst [.ref c, .int i, .int x, .int (k + 1)]) := upd_same
      have hcp : c ≠ pen := by
        intro e
        subst e
        rw [hp] at hc
        injection hc with hc
        injection hc with hc
        exact noPen_ints zs _ _ _ _ hc.symm
      have hc1 : (upd H pen (.lst ([V.ref c, .int i, .int x, .int k].set 3 (.int (k + 1))))) c = some (.lst (zs.map V.int)) := by rw [upd_ne hcp]; exact hc
      have k1 : Keep H (upd H pen (.lst ([V.ref c, .int i, .int x, .int k].set 3 (.int (k + 1))))) := keep_pen hp
      generalize upd H pen (.lst ([V.ref c, .int i, .int x, .int k].set 3 (.int (k + 1)))) = H1 at h1 hc1 k1 ⊢
      refine ⟨_, rfl, _, _, _, _, rfl, rfl, SqL.of h1, atI_nat (j := 2) rfl, .inl ⟨_, rfl, _, _, rfl, rfl, (show (1000000007 : Int) ≠ 0 by decide), ?_⟩⟩
      refine ⟨_, rfl, _, _, _, _, rfl, rfl, SqL.of h1, atI_nat (j := 3) rfl, _, _, rfl, rfl, .inl ⟨by decide, by decide⟩, _, _, rfl, rfl, _, _, rfl, rfl, ?_⟩
      have l0 := fmod_lo (a := x) (m := 1000000007) (by decide)
      have l1 := fmod_hi (a := x) (m := 1000000007) (by decide)
      have sb : (x.fmod 1000000007 + 69621 * (k + 1) + 48271).natAbs < 2 ^ 64 := by omega
      refine ⟨_, rfl, _, _, rfl, rfl, ⟨by decide, by decide, sb⟩, _, _, rfl, rfl, (show (170141183460469231731687303715884105727 : Int) ≠ 0 by decide), ?_⟩
      refine ⟨fun σ' H' => ∃ y, σ' = [some (.ref pen), some (.int m), none, y, some (.int (((x.fmod 1000000007 + 69621 * (k + 1) + 48271) ^ (17 : Int).toNat).fmod 170141183460469231731687303715884105727))] ∧ Keep H1 H' ∧ Pn H' pen c (n + 1), ?_, ?_⟩
      · refine ⟨_, rfl, _, _, _, _, rfl, rfl, SqL.of h1, atI_nat (j := 1) rfl, ?_⟩
        refine ⟨_, rfl, _, _, _, _, rfl, rfl, SqL.of h1, atI_nat (j := 0) rfl, _, _, rfl, .inl (SqL.of hc1), _, _, rfl, rfl, _, rfl, iteB (fun hlt => ?_) fun _ => ⟨_, rfl, Keep.refl _, ⟨zs, i, x, k + 1, h1, hc1, hz, hi, by omega, by omega⟩⟩⟩
        rw [List.length_map] at hlt
        refine ⟨_, rfl, _, _, _, _, rfl, rfl, SqL.of h1, atI_nat (j := 0) rfl, _, rfl, _, _, _, _, rfl, rfl, SqL.of h1, atI_nat (j := 1) rfl, _, _, _, _, rfl, rfl, SqL.of hc1, at_ints (n := i.toNat) (by omega) (by omega), ?_⟩
        refine ⟨_, rfl, _, _, _, 2, rfl, rfl, h1, rfl, ?_⟩
        refine ⟨_, rfl, _, _, _, _, rfl, rfl, SqL.of upd_same, atI_nat (j := 1) rfl, _, _, rfl, rfl, ?_⟩
        refine ⟨_, rfl, _, _, _, 1, rfl, rfl, upd_same, rfl, ?_⟩
        refine ⟨_, rfl, ?_⟩
        rw [upd_upd]
        exact ⟨keep_pen h1, pn_pen h1 hc1 hz (by omega) (by omega) (by omega)⟩
      · rintro σ' H' ⟨y, rfl, k2, p2⟩
        exact ⟨_, rfl, .inl ⟨_, rfl, _, _, rfl, rfl, ⟨by decide, by decide⟩, _, rfl, _, _, rfl, rfl, by omega, q _ _ (k1.trans k2) p2 (fmod_lo hm1) (fmod_hi hm1)⟩⟩
def spNumber : Sp := fun vs H Q _ => ∃ (pen c : Addr) (n : Nat), vs = [.ref pen] ∧ Pn H pen c n ∧ n ≤ 1000000 ∧ ∀ H' (z : Int), Keep H H' → Pn H' pen c (n + 4) → z.natAbs < 2 ^ 100 → Q (.int z) H'
theorem ok__law_number (T : Txt K mg) : FnOk P w K mg base CX0 2 (He.fAd K ("_law_number", none)) T.d__law_number ["pen"] spNumber := by
  refine FunD.ok T.fn__law_number sc__law_number (fun vs H Q E h => ?_) (fun cdv A outer s H vs Q E hr h => ?_)
  · obtain ⟨pen, c, n, rfl, _⟩ := h
    rfl
  · obtain ⟨pen, c, n, rfl, hp, hn, q⟩ := h
    refine ⟨_, PSs.nox (pss_cons (ps_set (i := 1) sc__law_number.nd rfl (Or.inl rfl) (pe_ix (ix_listK (K := K)) (pe_lstN (pa_cons pe_int (pa_cons pe_int (pa_cons pe_int (pa_cons (pe_op op_pow pe_int pe_int) pa_nil))))) (pe_call (ok__law_draw T) (hr.mono (by decide)) (by rfl) T.m__law_draw T.fn__law_draw.kp T.b__law_draw .nil pass0 (pa_cons (pv 0) (pa_cons pe_int pa_nil))) (fun _ _ => rfl)))
  (pss_one (ps_ret (pe_op op_sub (pe_call (ok__law_draw T) (hr.mono (by decide)) (by rfl) T.m__law_draw T.fn__law_draw.kp T.b__law_draw .nil pass0 (pa_cons (pv 0) (pa_cons (pv 1) pa_nil))) (pe_op op_mul (pe_call (ok__law_draw T) (hr.mono (by decide)) (by rfl) T.m__law_draw T.fn__law_draw.kp T.b__law_draw .nil pass0 (pa_cons (pv 0) (pa_cons pe_int pa_nil))) (pe_call (ok__law_draw T) (hr.mono (by decide)) (by rfl) T.m__law_draw T.fn__law_draw.kp T.b__law_draw .nil pass0 (pa_cons (pv 0) (pa_cons (pv 1) pa_nil)))))))), ?_⟩
    refine ⟨_, _, rfl, rfl, ⟨by decide, by decide, by decide⟩, by show 4 ≤ sizeLine; exact small (by omega), fun H1 l s1 n1 e1 => ?_⟩
    refine ⟨_, rfl, pen, c, n, 4, rfl, hp.same s1, by omega, by omega, by omega, fun H2 d k2 p2 d0 d1 => ?_⟩
    have e2 : H2 l = some (.lst [.int 3, .int 20, .int 300, .int ((10 : Int) ^ (30 : Int).toNat)]) := k2.lst (noPen_ints [3, 20, 300, 10 ^ (30 : Int).toNat]) e1
    have k12 : Keep H H2 := (keep_of s1).trans k2
    obtain ⟨v, av, mv⟩ := at_mem (l := [V.int 3, .int 20, .int 300, .int ((10 : Int) ^ (30 : Int).toNat)]) d0 d1
    obtain ⟨z, rfl, z1, z2⟩ : ∃ z : Int, v = .int z ∧ 1 ≤ z ∧ z ≤ 10 ^ 30 := by
      simp only [List.mem_cons, List.not_mem_nil, or_false] at mv
      rcases mv with rfl | rfl | rfl | rfl
      · exact ⟨_, rfl, by decide, by decide⟩
      · exact ⟨_, rfl, by decide, by decide⟩
      · exact ⟨_, rfl, by decide, by decide⟩
      · exact ⟨_, rfl, by decide, by decide⟩
    have zb : z < 2 ^ 200 := Int.lt_of_le_of_lt z2 (by decide)
    refine ⟨_, _, _, _, rfl, rfl, SqL.of e2, av, ?_⟩
    refine ⟨_, rfl, _, rfl, pen, c, n + 1, z, rfl, p2, by omega, z1, zb, fun H3 d3 k3 p3 l3 u3 => ?_⟩
    refine ⟨_, rfl, pen, c, n + 2, 2, rfl, p3, by omega, by omega, by omega, fun H4 d4 k4 p4 l4 u4 => ?_⟩
    refine ⟨_, rfl, _, rfl, pen, c, n + 3, z, rfl, p4, by omega, z1, zb, fun H5 d5 k5 p5 l5 u5 => ?_⟩
    exact ⟨_, _, rfl, rfl, .inl ⟨by omega, by omega⟩, _, _, rfl, rfl, q _ _ (((k12.trans k3).trans k4).trans k5) p5 (by
    have e : d4 = 0 ∨ d4 = 1 := by omega
    rcases e with rfl | rfl
    · rw [Int.zero_mul]
      omega
    · rw [Int.one_mul]
      omega)⟩
def spList : Sp := fun vs H Q _ => ∃ (pen c : Addr) (n m : Nat), vs = [.ref pen, .int m] ∧ Pn H pen c n ∧ n ≤ 100000 ∧ m ≤ 1000 ∧ ∀ H' p (xs : List Int), Keep H H' → Pn H' pen c (n + 1 + 5 * m) → H' p = some (.lst (xs.map V.int)) → xs.length ≤ m → (∀ x ∈ xs, Int.natAbs x < 2 ^ 100) → Q (.ref p) H'
theorem ok__law_list (T : Txt K mg) : FnOk P w K mg base CX0 3 (He.fAd K ("_law_list", none)) T.d__law_list ["pen", "most"] spList := by
  refine FunD.ok T.fn__law_list sc__law_list (fun vs H Q E h => ?_) (fun cdv A outer s H vs Q E hr h => ?_)
  · obtain ⟨pen, c, n, m, rfl, _⟩ := h
    rfl
  · obtain ⟨pen, c, n, m, rfl, hp, hn, hm, q⟩ := h
    refine ⟨_, PSs.nox (pss_one (ps_ret (pe_lcN (own := [("k", 2)]) rfl sc__law_list.nd (pi_range1 rfl T.z_range (pa_cons (pe_call (ok__law_draw T) (hr.mono (by decide)) (by rfl) T.m__law_draw T.fn__law_draw.kp T.b__law_draw .nil pass0 (pa_cons (pv 0) (pa_cons (pe_op op_add (pv 1) pe_int) pa_nil))) pa_nil)) (blkOk_by (own := [("k", 2)]) (N := ["pen", "most", "k"]) (sc := defScope s__law_list) (by decide +kernel)) (fun _ _ _ _ _ => (pg_name (i := 2) sc__law_list.nd rfl (Or.inl rfl))) (fun _ _ _ _ _ => pts_nil) (fun _ _ _ _ _ => (pe_op op_mul (pe_call (ok__law_number T) (hr.mono (by decide)) (by rfl) T.m__law_number T.fn__law_number.kp T.b__law_number .nil pass0 (pa_cons (pv 0) pa_nil)) (pe_callTy call_int1 (by rfl) T.z_int (by decide +kernel) (pa_cons (pe_cmpR op_gt (pe_call (ok__law_draw T) (hr.mono (by decide)) (by rfl) T.m__law_draw T.fn__law_draw.kp T.b__law_draw .nil pass0 (pa_cons (pv 0) (pa_cons pe_int pa_nil))) pe_int (nomark _)) pa_nil))))))), ?_⟩
    refine ⟨_, rfl, _, rfl, _, _, rfl, rfl, pen, c, n, (m : Int) + 1, rfl, hp, by omega, by omega, by omega, fun H1 d k1 p1 d0 d1 => ?_⟩
    refine ⟨_, rfl, by omega, by omega, fun D H2 hD s2 e2 => ?_⟩
    refine lcN_range (fun i acc H' => Keep H1 H' ∧ Pn H' pen c (n + 1 + 5 * i) ∧ ∃ xs : List Int, acc = xs.map V.int ∧ xs.length = i ∧ ∀ x ∈ xs, x.natAbs < 2 ^ 100) ⟨keep_of s2, p1.same s2, [], rfl, rfl, fun x hx => by simp at hx⟩ ?_ ?_
    · rintro i acc H3 hi ⟨k3, p3, xs, rfl, hxl, hxs⟩ eD
      refine ⟨rfl, yesT ?_⟩
      refine ⟨_, rfl, pen, c, n + 1 + 5 * i, rfl, p3, by omega, fun H4 z k4 p4 hz => ?_⟩
      refine ⟨_, rfl, pen, c, n + 1 + 5 * i + 4, 4, rfl, p4, by omega, by omega, by omega, fun H5 d5 k5 p5 _ _ => ?_⟩
      have fin : ∀ u : Int, u.natAbs < 2 ^ 100 → ∀ H6 : Hp, H6 = H5 → H6 D = some (.lst (xs.map V.int)) ∧ (xs.map V.int).length < sizeLine ∧ ∀ H7, SameBut D H6 H7 → H7 D = some (.lst (xs.map V.int ++ [.int u])) → Keep H1 H7 ∧ Pn H7 pen c (n + 1 + 5 * (i + 1)) ∧ ∃ ys : List Int, xs.map V.int ++ [.int u] = ys.map V.int ∧ ys.length = i + 1 ∧ ∀ x ∈ ys, x.natAbs < 2 ^ 100 := by
        intro u hu H6 e
        subst e
        refine ⟨(k4.trans k5).lst (noPen_ints _) eD, by rw [List.length_map]; exact len_big (by omega), fun H7 b7 e7 => ⟨(k3.trans (k4.trans k5)).but hD b7, Pn.but p1 hD b7 (p5.mono (by omega)), xs ++ [u], by rw [List.map_append]; rfl, by rw [List.length_append, hxl]; rfl, fun x hx => ?_⟩⟩
        rcases List.mem_append.mp hx with h | h
        · exact hxs x h
        · rw [List.mem_singleton.mp h]
          exact hu
      refine ⟨_, _, rfl, rfl, .inr ⟨_, rfl, ?_⟩⟩
      by_cases hd : 0 < d5
      · rw [decide_eq_true hd]
        refine ⟨_, _, rfl, rfl, .inr ⟨by decide, by decide⟩, fin (z * 1) ?_ _ rfl⟩
        rw [Int.mul_one]
        exact hz
      · rw [decide_eq_false hd]
        refine ⟨_, _, rfl, rfl, .inr ⟨by decide, by decide⟩, fin (z * 0) ?_ _ rfl⟩
        rw [Int.mul_zero]
        decide
    · rintro acc H3 ⟨k3, p3, xs, rfl, hxl, hxs⟩ eD
      exact q H3 D xs (k1.trans k3) (p3.mono (by omega)) eD (by omega) hxs
def spREq (K : PySem.W.Frag) : Sp := fun vs H Q _ => ∃ (p b : Addr) (xs : List Int), vs = [.ref p, .ref b] ∧ RowAt K H p xs ∧ ((∃ ys, RowAt K H b ys ∧ ∀ H', Same H H' → Q (.bl (decide (xs = ys))) H') ∨ ∃ zs, SqT K H b zs ∧ ∀ H', Same H H' → Q (.bl false) H')
theorem ok_Row___eq__ (T : Txt K mg) : FnOk P w K mg base CX0 1 (He.fAd K ("Row", some "__eq__")) T.d_Row___eq__ ["self", "other"] (spREq K) := by
  refine FunD.ok T.fn_Row___eq__ sc_Row___eq__ (fun vs H Q E h => ?_) (fun cdv A outer s H vs Q E hr h => ?_)
  · obtain ⟨p, b, xs, rfl, _⟩ := h
    rfl
  · obtain ⟨p, b, xs, rfl, hR, h⟩ := h
    refine ⟨_, PSs.nox (pss_one (ps_ret (pe_and (pe_callB (call_isiK (K := K) (cl := T.cl_Row) (ib := T.ic_Row)) (by rfl) T.z_isinstance (by decide +kernel) (pa_cons (pv 1) (pa_cons (pe_glob (v := .ref (He.ga K "Row")) rfl T.m_Row rfl) pa_nil))) (pe_one (pe_cmpR (op_eqDK (K := K) hr.units) (pe_fldK (K := K) (pv 0) rfl) (pe_fldK (K := K) (pv 1) rfl) (nomark _)))))), ?_⟩
    obtain ⟨dx, t, hp, hT⟩ := id hR
    rcases h with ⟨ys, ⟨dy, u, hb, hU⟩, q⟩ | ⟨zs, hZ, q⟩
    · refine ⟨_, rfl, b, rfl, .inl ⟨_, _, hb, _, rfl, iteT ?_⟩⟩
      refine ⟨_, rfl, _, _, _, _, _, rfl, hp, T.cl_Row, T.n_Row_entries, rowF_look _, _, rfl, _, _, _, _, _, rfl, hb, T.cl_Row, T.n_Row_entries, rowF_look _, ?_⟩
      refine ⟨_, _, dp_tup hT, dp_tup hU, sh_tup _, sh_tup _, ?_⟩
      rw [eqv_tup]
      exact q _ (Same.refl _)
    · exact ⟨_, rfl, b, rfl, .inr ⟨zs, hZ, _, rfl, iteF (q _ (Same.refl _))⟩⟩
def spDown (K : PySem.W.Frag) : Sp := fun vs H Q _ => ∃ (p : Addr) (n : Nat) (xs : List Int), vs = [.ref p, .int n] ∧ RowAt K H p xs ∧ xs.length ≤ 100000 ∧ ∀ H' u, Same H H' → RowAt K H' u (stp (xs.drop n)) → Q (.ref u) H'
theorem ok_Row_down (T : Txt K mg) : FnOk P w K mg base CX0 4 (He.fAd K ("Row", some "down")) T.d_Row_down ["self", "lanes"] (spDown K) := by
  refine FunD.ok T.fn_Row_down sc_Row_down (fun vs H Q E h => ?_) (fun cdv A outer s H vs Q E hr h => ?_)
  · obtain ⟨p, n, xs, rfl, _⟩ := h
    rfl
  · obtain ⟨p, n, xs, rfl, ⟨dx, t, hp, hT⟩, lx, q⟩ := h
    refine ⟨_, PSs.nox (pss_cons (ps_expr (pe_call (ok_check_lanes T) (hr.mono (by decide)) (by rfl) T.m_check_lanes T.fn_check_lanes.kp T.b_check_lanes .nil pass0 (pa_cons (pv 1) pa_nil)))
  (pss_one (ps_ret (pe_row (K := K) rfl T (hr.mono (by decide)) (by rfl) (pa_cons (pe_slice (sl_tupK (K := K)) (pe_fldK (K := K) (pv 0) rfl) (po_some (pv 1)) po_none) pa_nil))))), ?_⟩
    refine ⟨_, rfl, _, rfl, by omega, ?_⟩
    refine ⟨_, rfl, _, _, _, _, _, rfl, hp, T.cl_Row, T.n_Row_entries, rowF_look _, _, rfl, _, rfl, _, _, rfl, hT, fun H1 t2 s1 h1 => ?_⟩
    rw [cut_from, ← List.map_drop] at h1
    exact ⟨_, _, rfl, .inr h1, by rw [List.length_drop]; omega, fun H2 u s2 hu => q H2 u (s1.trans s2) hu⟩
def spLow (K : PySem.W.Frag) : Sp := fun vs H Q _ => ∃ (p : Addr) (n : Nat) (xs : List Int), vs = [.ref p, .int n] ∧ RowAt K H p xs ∧ xs.length ≤ 100000 ∧ ∀ H' u, Same H H' → RowAt K H' u (stp (xs.take n)) → Q (.ref u) H'
theorem ok_Row_low (T : Txt K mg) : FnOk P w K mg base CX0 4 (He.fAd K ("Row", some "low")) T.d_Row_low ["self", "lanes"] (spLow K) := by
  refine FunD.ok T.fn_Row_low sc_Row_low (fun vs H Q E h => ?_) (fun cdv A outer s H vs Q E hr h => ?_)
  · obtain ⟨p, n, xs, rfl, _⟩ := h
    rfl
  · obtain ⟨p, n, xs, rfl, ⟨dx, t, hp, hT⟩, lx, q⟩ := h
    refine ⟨_, PSs.nox (pss_cons (ps_expr (pe_call (ok_check_lanes T) (hr.mono (by decide)) (by rfl) T.m_check_lanes T.fn_check_lanes.kp T.b_check_lanes .nil pass0 (pa_cons (pv 1) pa_nil)))
  (pss_one (ps_ret (pe_row (K := K) rfl T (hr.mono (by decide)) (by rfl) (pa_cons (pe_slice (sl_tupK (K := K)) (pe_fldK (K := K) (pv 0) rfl) po_none (po_some (pv 1))) pa_nil))))), ?_⟩
    refine ⟨_, rfl, _, rfl, by omega, ?_⟩
    refine ⟨_, rfl, _, _, _, _, _, rfl, hp, T.cl_Row, T.n_Row_entries, rowF_look _, _, rfl, _, rfl, _, _, rfl, hT, fun H1 t2 s1 h1 => ?_⟩
    rw [cut_to, ← List.map_take] at h1
    exact ⟨_, _, rfl, .inr h1, by rw [List.length_take]; omega, fun H2 u s2 hu => q H2 u (s1.trans s2) hu⟩
theorem iteNE {c A B : Prop} [Decidable c] (h : c) (q : B) : if (!decide c) = true then A else B := by
  rw [decide_eq_true h]
  exact q
/-- row % ds, told by any quotient and rest -/
theorem rowModU {H : Hp} {p r : Addr} {m k top : Nat} {xs ds q' r' : List Int} {Q : VK} {E : XK} (hP : RowAt K H p (stp xs)) (hD : RowAt K H r (stp ds)) (hdl : ds.length = top + 1) (hmon : ds.getD top 0 = 1) (htop : top ≤ 39)
    (hxl : xs.length ≤ 1000) (hx : ∀ x ∈ xs, x.natAbs < 2 ^ m) (hd : ∀ d ∈ ds, d.natAbs < 2 ^ k) (hB : m + (xs.length + 1) * (k + 1) ≤ 900000) (hB2 : (m + xs.length * (k + 1) + k + 20) * (xs.length + 1 + ds.length) ≤ 600000)
    (hr : r'.length ≤ top) (hv : ∀ w, val xs w = val q' w * val ds w + val r' w) (q : ∀ H' u, Same H H' → RowAt K H' u (stp r') → Q (.ref u) H') : rOwn (He.ga K "Row") (spMod K) E (.ref p) (.ref r) H Q := by
  rw [stp_monic hdl hmon] at hD
  obtain ⟨dx, tx, gx, _⟩ := id hP
  obtain ⟨dy, ty, gy, _⟩ := id hD
  have ls := stp_length xs
  have h1 : (stp xs).length * (k + 1) ≤ xs.length * (k + 1) := Nat.mul_le_mul_right _ ls
  have h1' : ((stp xs).length + 1) * (k + 1) ≤ (xs.length + 1) * (k + 1) := Nat.mul_le_mul_right _ (by omega)
  have h2 : (m + (stp xs).length * (k + 1) + k + 20) * ((stp xs).length + 1 + ds.length) ≤ (m + xs.length * (k + 1) + k + 20) * (xs.length + 1 + ds.length) := Nat.mul_le_mul (by omega) (by omega)
  exact ⟨p, r, dx, dy, _, _, rfl, rfl, gx, gy, p, r, m, k, top, stp xs, ds, rfl, hP, hD, hdl, hmon, htop, by omega, stp_small hx, hd, by omega, Nat.le_trans h2 hB2, fun H7 u qs rs s7 hu hrl hw =>
    q H7 u s7 ((quot_unique (q := qs) (q' := q') (r := rs) (r' := r') hdl hmon hrl hr fun w => by rw [← hw w, val_stp, hv w]).2 ▸ hu)⟩
theorem rowDivU {H : Hp} {p r : Addr} {m k top : Nat} {xs ds q' r' : List Int} {Q : VK} {E : XK} (hP : RowAt K H p (stp xs)) (hD : RowAt K H r (stp ds)) (hdl : ds.length = top + 1) (hmon : ds.getD top 0 = 1) (htop : top ≤ 39)
    (hxl : xs.length ≤ 1000) (hx : ∀ x ∈ xs, x.natAbs < 2 ^ m) (hd : ∀ d ∈ ds, d.natAbs < 2 ^ k) (hB : m + (xs.length + 1) * (k + 1) ≤ 900000)
    (hr : r'.length ≤ top) (hv : ∀ w, val xs w = val q' w * val ds w + val r' w) (q : ∀ H' u, Same H H' → RowAt K H' u (stp q') → Q (.ref u) H') : rOwn (He.ga K "Row") (spFDiv K) E (.ref p) (.ref r) H Q := by
  rw [stp_monic hdl hmon] at hD
  obtain ⟨dx, tx, gx, _⟩ := id hP
  obtain ⟨dy, ty, gy, _⟩ := id hD
  have ls := stp_length xs
  have h1' : ((stp xs).length + 1) * (k + 1) ≤ (xs.length + 1) * (k + 1) := Nat.mul_le_mul_right _ (by omega)
  exact ⟨p, r, dx, dy, _, _, rfl, rfl, gx, gy, p, r, m, k, top, stp xs, ds, rfl, hP, hD, hdl, hmon, htop, by omega, stp_small hx, hd, by omega, fun H7 u qs rs s7 hu hql hrl hw hqs =>
    q H7 u s7 ((quot_unique (q := qs) (q' := q') (r := rs) (r' := r') hdl hmon hrl hr fun w => by rw [← hw w, val_stp, hv w]).1 ▸ hu)⟩
theorem rowEq {H : Hp} {a b : Addr} {xs ys : List Int} {Q : VK} {E : XK} (ha : RowAt K H a xs) (hb : RowAt K H b ys) (q : ∀ H', Same H H' → Q (.bl (decide (xs = ys))) H') : rOwnEq K (He.ga K "Row") (spREq K) E (.ref a) (.ref b) H Q := by
  obtain ⟨dx, tx, gx, _⟩ := id ha
  obtain ⟨dy, ty, gy, _⟩ := id hb
  exact ⟨a, dx, _, b, rfl, rfl, gx, .inl ⟨dy, _, gy⟩, a, b, xs, rfl, ha, .inl ⟨ys, hb, q⟩⟩
end
end Pl

set_option Elab.async false
set_option linter.all false
set_option maxRecDepth 100000
set_option maxHeartbeats 4000000
namespace Pl
open PySem PySem.Spec PyProof.Rows L2 RZ
section
variable {P : Program} {w : World} {K : PySem.W.Frag} {mg : Str → Option Value} {base : Heap}
def spLaw (K : PySem.W.Frag) : Sp := fun vs H Q _ => ∃ (a : Addr) (ns : List Int), vs = [.ref a] ∧ SqL K H a (ns.map V.int) ∧ ns.length ≤ 63 ∧ ∀ H', Q (.bl true) H'
def sgn (n : Nat) : List Int := (List.range n).map fun k : Nat => 1 * (1 - 2 * ((k : Int) % 2))
theorem sgn_snoc (n : Nat) : sgn (n + 1) = sgn n ++ [1 * (1 - 2 * ((n : Int) % 2))] := by
  unfold sgn
  rw [List.range_succ, List.map_append]
  rfl
set_option pp.maxSteps 3000
theorem ok_law (T : Txt K mg) : FnOk P w K mg base CX0 10 (He.fAd K ("law", none)) T.d_law ["script"] (spLaw K) := by
  refine FunD.ok T.fn_law sc_law (fun vs H Q E h => ?_) (fun cdv A outer s H vs Q E hr h => ?_)
  · obtain ⟨a, ns, rfl, _⟩ := h
    rfl
  · obtain ⟨a, ns, rfl, hS, hl, q⟩ := h
    refine ⟨_, PSs.nox (pss_cons (ps_set (i := 1) sc_law.nd rfl (Or.inl rfl) (pe_call (ok__law_start T) (hr.mono (by decide)) (by rfl) T.m__law_start T.fn__law_start.kp T.b__law_start .nil pass0 (pa_cons (pv 0) pa_nil)))
  (pss_cons (ps_set (i := 2) sc_law.nd rfl (Or.inr rfl) (pe_call (ok__law_list T) (hr.mono (by decide)) (by rfl) T.m__law_list T.fn__law_list.kp T.b__law_list .nil pass0 (pa_cons (pv 1) (pa_cons pe_int pa_nil))))
  (pss_cons (ps_set (i := 3) sc_law.nd rfl (Or.inl rfl) (pe_row (K := K) rfl T (hr.mono (by decide)) (by rfl) (pa_cons (pv 2) pa_nil)))
  (pss_cons (ps_set (i := 4) sc_law.nd rfl (Or.inl rfl) (pe_callB (call_sumK (K := K) rfl) (by rfl) T.z_sum (by decide +kernel) (pa_cons (pv 2) pa_nil)))
  (pss_cons (ps_setLcN (i := 5) (own := [("k", 6)]) rfl sc_law.nd rfl rfl (sw_true rfl rfl rfl (by decide +kernel)) (pi_range1 rfl T.z_range (pa_cons (pe_callB (call_lenK (K := K)) (by rfl) T.z_len PySem.boot_len (pa_cons (pv 2) pa_nil)) pa_nil)) (blkOk_by (own := [("k", 6)]) (N := ["script", "pen", "entries", "row", "total", "signs", "k", "one", "two", "point", "worth", "entry", "turns", "lanes", "above", "turn", "width", "size", "rest", "whole"]) (sc := defScope s_law) (by decide +kernel)) (fun _ _ _ _ _ => (pg_name (i := 6) sc_law.nd rfl (Or.inl rfl))) (fun _ _ _ _ _ => pts_nil) (fun _ _ _ _ _ => (pe_op op_sub pe_int (pe_op op_mul pe_int (pe_op op_modN (pv 6) pe_int)))))
  (pss_cons (ps_if (pt_not (pt_cmpR (op_ownEq (K := K) T.h_Row___eq__ T.et_Row (ok_Row___eq__ T) (hr.mono (by decide)) T.b_Row___eq__ pass0) (pe_op (op_own T.h_Row___mod__ T.sf_Row (ok_Row___mod__ T) (hr.mono (by decide)) T.b_Row___mod__ pass0) (pv 3) (pe_row (K := K) rfl T (hr.mono (by decide)) (by rfl) (pa_cons (pe_lstN (pa_cons (pe_un un_neg pe_int) (pa_cons pe_int pa_nil))) pa_nil))) (pe_row (K := K) rfl T (hr.mono (by decide)) (by rfl) (pa_cons (pe_lstN (pa_cons (pv 4) pa_nil)) pa_nil)) (nomark _)))
  (pss_one (ps_ret pe_bl))
  pss_nil)
  (pss_cons (ps_if (pt_not (pt_cmpR (op_ownEq (K := K) T.h_Row___eq__ T.et_Row (ok_Row___eq__ T) (hr.mono (by decide)) T.b_Row___eq__ pass0) (pe_op (op_own T.h_Row___mod__ T.sf_Row (ok_Row___mod__ T) (hr.mono (by decide)) T.b_Row___mod__ pass0) (pv 3) (pe_row (K := K) rfl T (hr.mono (by decide)) (by rfl) (pa_cons (pe_lstN (pa_cons pe_int (pa_cons pe_int pa_nil))) pa_nil))) (pe_row (K := K) rfl T (hr.mono (by decide)) (by rfl) (pa_cons (pe_lstN (pa_cons (pe_callB (call_sumK (K := K) rfl) (by rfl) T.z_sum (by decide +kernel) (pa_cons (pe_lcN (own := [("one", 7), ("two", 8)]) rfl sc_law.nd (pi_zipA (by rfl) T.z_zip (pa_cons (pv 2) (pa_cons (pv 5) pa_nil))) (blkOk_by (own := [("one", 7), ("two", 8)]) (N := ["script", "pen", "entries", "row", "total", "signs", "k", "one", "two", "point", "worth", "entry", "turns", "lanes", "above", "turn", "width", "size", "rest", "whole"]) (sc := defScope s_law) (by decide +kernel)) (fun _ _ _ _ _ => (pg_pair (K := K) (i := 7) (j := 8) rfl sc_law.nd rfl rfl (Or.inl rfl) (Or.inl rfl))) (fun _ _ _ _ _ => pts_nil) (fun _ _ _ _ _ => (pe_op op_mul (pv 7) (pv 8)))) pa_nil)) pa_nil)) pa_nil)) (nomark _)))
  (pss_one (ps_ret pe_bl))
  pss_nil)
  (pss_cons (ps_set (i := 9) sc_law.nd rfl (Or.inl rfl) (pe_op op_sub (pe_call (ok__law_draw T) (hr.mono (by decide)) (by rfl) T.m__law_draw T.fn__law_draw.kp T.b__law_draw .nil pass0 (pa_cons (pv 1) (pa_cons pe_int pa_nil))) pe_int))
  (pss_cons (ps_set (i := 10) sc_law.nd rfl (Or.inl rfl) pe_int)
  (pss_cons (ps_for PassesOwn.never rfl (pi_listK (K := K) (pe_slRev (K := K) (pv 2))) (pg_name (i := 11) sc_law.nd rfl (Or.inl rfl))
  (pss_one (ps_set (i := 10) sc_law.nd rfl (Or.inl rfl) (pe_op op_add (pe_op op_mul (pv 10) (pv 9)) (pv 11)))))
  (pss_cons (ps_if (pt_not (pt_cmpR (op_ownEq (K := K) T.h_Row___eq__ T.et_Row (ok_Row___eq__ T) (hr.mono (by decide)) T.b_Row___eq__ pass0) (pe_op (op_own T.h_Row___mod__ T.sf_Row (ok_Row___mod__ T) (hr.mono (by decide)) T.b_Row___mod__ pass0) (pv 3) (pe_row (K := K) rfl T (hr.mono (by decide)) (by rfl) (pa_cons (pe_lstN (pa_cons (pe_un un_neg (pv 9)) (pa_cons pe_int pa_nil))) pa_nil))) (pe_row (K := K) rfl T (hr.mono (by decide)) (by rfl) (pa_cons (pe_lstN (pa_cons (pv 10) pa_nil)) pa_nil)) (nomark _)))
  (pss_one (ps_ret pe_bl))
  pss_nil)
  (pss_cons (ps_set (i := 12) sc_law.nd rfl (Or.inl rfl) (pe_lstN (pa_cons (pe_callB (call_sumK (K := K) rfl) (by rfl) T.z_sum (by decide +kernel) (pa_cons (pe_slStep (K := K) (pv 2) (po_some pe_int) (by decide)) pa_nil)) (pa_cons (pe_callB (call_sumK (K := K) rfl) (by rfl) T.z_sum (by decide +kernel) (pa_cons (pe_slStep (K := K) (pv 2) (po_some pe_int) (by decide)) pa_nil)) pa_nil))))
  (pss_cons (ps_if (pt_not (pt_cmpR (op_ownEq (K := K) T.h_Row___eq__ T.et_Row (ok_Row___eq__ T) (hr.mono (by decide)) T.b_Row___eq__ pass0) (pe_op (op_own T.h_Row___mod__ T.sf_Row (ok_Row___mod__ T) (hr.mono (by decide)) T.b_Row___mod__ pass0) (pv 3) (pe_row (K := K) rfl T (hr.mono (by decide)) (by rfl) (pa_cons (pe_lstN (pa_cons (pe_un un_neg pe_int) (pa_cons pe_int (pa_cons pe_int pa_nil)))) pa_nil))) (pe_row (K := K) rfl T (hr.mono (by decide)) (by rfl) (pa_cons (pv 12) pa_nil)) (nomark _)))
  (pss_one (ps_ret pe_bl))
  pss_nil)
  (pss_cons (ps_set (i := 13) sc_law.nd rfl (Or.inl rfl) (pe_call (ok__law_draw T) (hr.mono (by decide)) (by rfl) T.m__law_draw T.fn__law_draw.kp T.b__law_draw .nil pass0 (pa_cons (pv 1) (pa_cons pe_int pa_nil))))
  (pss_cons (ps_if (PW.pt (pw_or (pt_not (pt_cmpR (op_ownEq (K := K) T.h_Row___eq__ T.et_Row (ok_Row___eq__ T) (hr.mono (by decide)) T.b_Row___eq__ pass0) (pe_op (op_own T.h_Row___mod__ T.sf_Row (ok_Row___mod__ T) (hr.mono (by decide)) T.b_Row___mod__ pass0) (pv 3) (pe_row (K := K) rfl T (hr.mono (by decide)) (by rfl) (pa_cons (pe_op op_catN (pe_op op_repN (pe_lstN (pa_cons pe_int pa_nil)) (pv 13)) (pe_lstN (pa_cons pe_int pa_nil))) pa_nil))) (pe_meth (pv 3) T.cl_Row T.h_Row_low (ok_Row_low T) (hr.mono (by decide)) T.b_Row_low .nil pass0 (pa_cons (pv 13) pa_nil)) (nomark _))) (pw_or1 (pt_not (pt_cmpR (op_ownEq (K := K) T.h_Row___eq__ T.et_Row (ok_Row___eq__ T) (hr.mono (by decide)) T.b_Row___eq__ pass0) (pe_op (op_own T.h_Row___floordiv__ T.sf_Row (ok_Row___floordiv__ T) (hr.mono (by decide)) T.b_Row___floordiv__ pass0) (pv 3) (pe_row (K := K) rfl T (hr.mono (by decide)) (by rfl) (pa_cons (pe_op op_catN (pe_op op_repN (pe_lstN (pa_cons pe_int pa_nil)) (pv 13)) (pe_lstN (pa_cons pe_int pa_nil))) pa_nil))) (pe_meth (pv 3) T.cl_Row T.h_Row_down (ok_Row_down T) (hr.mono (by decide)) T.b_Row_down .nil pass0 (pa_cons (pv 13) pa_nil)) (nomark _))))))
  (pss_one (ps_ret pe_bl))
  pss_nil)
  (pss_cons (ps_setLcN (i := 14) (own := [("k", 6)]) rfl sc_law.nd rfl rfl (sw_true rfl rfl rfl (by decide +kernel)) (pi_range1 rfl T.z_range (pa_cons (pe_callB (call_lenK (K := K)) (by rfl) T.z_len PySem.boot_len (pa_cons (pv 2) pa_nil)) pa_nil)) (blkOk_by (own := [("k", 6)]) (N := ["script", "pen", "entries", "row", "total", "signs", "k", "one", "two", "point", "worth", "entry", "turns", "lanes", "above", "turn", "width", "size", "rest", "whole"]) (sc := defScope s_law) (by decide +kernel)) (fun _ _ _ _ _ => (pg_name (i := 6) sc_law.nd rfl (Or.inl rfl))) (fun _ _ _ _ _ => pts_nil) (fun _ _ _ _ _ => (pe_callB (call_sumK (K := K) rfl) (by rfl) T.z_sum (by decide +kernel) (pa_cons (pe_slice (sl_listK (K := K)) (pv 2) (po_some (pe_op op_add (pv 6) pe_int)) po_none) pa_nil))))
  (pss_cons (ps_if (pt_not (pt_cmpR (op_ownEq (K := K) T.h_Row___eq__ T.et_Row (ok_Row___eq__ T) (hr.mono (by decide)) T.b_Row___eq__ pass0) (pe_op (op_own T.h_Row___floordiv__ T.sf_Row (ok_Row___floordiv__ T) (hr.mono (by decide)) T.b_Row___floordiv__ pass0) (pv 3) (pe_row (K := K) rfl T (hr.mono (by decide)) (by rfl) (pa_cons (pe_lstN (pa_cons (pe_un un_neg pe_int) (pa_cons pe_int pa_nil))) pa_nil))) (pe_row (K := K) rfl T (hr.mono (by decide)) (by rfl) (pa_cons (pv 14) pa_nil)) (nomark _)))
  (pss_one (ps_ret pe_bl))
  pss_nil)
  (pss_cons (ps_for PassesOwn.never rfl (pi_range1 rfl T.z_range (pa_cons pe_int pa_nil)) (pg_name (i := 15) sc_law.nd rfl (Or.inl rfl))
  (pss_cons (ps_set (i := 16) sc_law.nd rfl (Or.inr rfl) (pe_op op_add pe_int (pe_call (ok__law_draw T) (hr.mono (by decide)) (by rfl) T.m__law_draw T.fn__law_draw.kp T.b__law_draw .nil pass0 (pa_cons (pv 1) (pa_cons (pe_ix (ix_listK (K := K)) (pe_lstN (pa_cons pe_int (pa_cons pe_int (pa_cons pe_int pa_nil)))) (pe_call (ok__law_draw T) (hr.mono (by decide)) (by rfl) T.m__law_draw T.fn__law_draw.kp T.b__law_draw .nil pass0 (pa_cons (pv 1) (pa_cons pe_int pa_nil))) (fun _ _ => rfl)) pa_nil)))))
  (pss_cons (ps_ifJ (pt_cmpR op_eq (pv 15) pe_int (nomark _))
  (pss_one (ps_set (i := 16) sc_law.nd rfl (Or.inr rfl) (pe_op op_add pe_int (pe_call (ok__law_draw T) (hr.mono (by decide)) (by rfl) T.m__law_draw T.fn__law_draw.kp T.b__law_draw .nil pass0 (pa_cons (pv 1) (pa_cons pe_int pa_nil))))))
  pss_nil)
  (pss_cons (ps_set (i := 17) sc_law.nd rfl (Or.inl rfl) (pe_op op_shlW pe_int (pv 16)))
  (pss_cons (ps_set (i := 18) sc_law.nd rfl (Or.inl rfl) (pe_fldK (K := K) (pe_meth (pe_call (ok_packed T) (hr.mono (by decide)) (by rfl) T.m_packed T.fn_packed.kp T.b_packed .nil pass0 (pa_cons (pv 3) (pa_cons (pv 16) pa_nil))) T.cl_Pack T.h_Pack_rest (ok_Pack_rest T) (hr.mono (by decide)) T.b_Pack_rest .nil pass0 (pa_cons (pe_row (K := K) rfl T (hr.mono (by decide)) (by rfl) (pa_cons (pe_lstN (pa_cons (pe_un un_neg pe_int) (pa_cons pe_int pa_nil))) pa_nil)) pa_nil)) rfl))
  (pss_cons (ps_if (PW.pt (pw_or (pt_cmpR op_ne (pv 18) (pe_op op_modN (pv 4) (pe_op op_sub (pv 17) pe_int)) (nomark _)) (pw_or1 (pt_cmpR op_ne (pe_cmpR op_eq (pv 18) (pv 4) (nomark _)) (pe_chain op_le op_le pe_int (pv 4) (pe_op op_sub (pv 17) pe_int)) (nomark _)))))
  (pss_one (ps_ret pe_bl))
  pss_nil)
  (pss_cons (ps_set (i := 19) sc_law.nd rfl (Or.inl rfl) (pe_callB (call_sumK (K := K) rfl) (by rfl) T.z_sum (by decide +kernel) (pa_cons (pe_lcN (own := [("k", 6)]) rfl sc_law.nd (pi_range1 rfl T.z_range (pa_cons (pe_callB (call_lenK (K := K)) (by rfl) T.z_len PySem.boot_len (pa_cons (pv 2) pa_nil)) pa_nil)) (blkOk_by (own := [("k", 6)]) (N := ["script", "pen", "entries", "row", "total", "signs", "k", "one", "two", "point", "worth", "entry", "turns", "lanes", "above", "turn", "width", "size", "rest", "whole"]) (sc := defScope s_law) (by decide +kernel)) (fun _ _ _ _ _ => (pg_name (i := 6) sc_law.nd rfl (Or.inl rfl))) (fun _ _ _ _ _ => pts_nil) (fun _ _ _ _ _ => (pe_op op_mulW (pe_ix (ix_listK (K := K)) (pv 2) (pv 6) (fun _ _ => rfl)) (pe_op op_shlW pe_int (pe_op op_mul (pv 16) (pv 6)))))) pa_nil)))
  (pss_one (ps_if (pt_cmpR op_ne (pe_op op_add (pe_op op_mulW (pe_fldK (K := K) (pe_meth (pe_call (ok_packed T) (hr.mono (by decide)) (by rfl) T.m_packed T.fn_packed.kp T.b_packed .nil pass0 (pa_cons (pv 3) (pa_cons (pv 16) pa_nil))) T.cl_Pack T.h_Pack_over (ok_Pack_over T) (hr.mono (by decide)) T.b_Pack_over .nil pass0 (pa_cons (pe_row (K := K) rfl T (hr.mono (by decide)) (by rfl) (pa_cons (pe_lstN (pa_cons (pe_un un_neg pe_int) (pa_cons pe_int pa_nil))) pa_nil)) pa_nil)) rfl) (pe_op op_sub (pv 17) pe_int)) (pv 18)) (pv 19) (nomark _))
  (pss_one (ps_ret pe_bl))
  pss_nil)))))))))
  (pss_one (ps_ret pe_bl)))))))))))))))))))), ?_⟩
    refine ⟨_, rfl, a, ns, rfl, hS, hl, fun H1 pen c s1 p1 => ?_⟩
    refine ⟨_, rfl, pen, c, 0, 6, rfl, p1, by omega, by omega, fun H2 le xs k2 p2 e2 lx hx => ?_⟩
    refine ⟨_, rfl, le, xs, rfl, .inl (SqL.of e2), by omega, fun H3 r s3 hr3 => ?_⟩
    have e3 := s3 _ _ e2
    have p3 := p2.same s3
    refine ⟨_, rfl, le, xs, rfl, SqL.of e3, ?_⟩
    refine ⟨_, rfl, le, _, rfl, .inl (SqL.of e3), _, rfl, by rw [List.length_map]; omega, by rw [List.length_map]; omega, fun D H4 hD s4 e4 => ?_⟩
    rw [List.length_map]
    refine lcN_range (fun i acc H' => Same H3 H' ∧ acc = (sgn i).map V.int) ⟨s4, rfl⟩ ?_ ?_
    · rintro i acc H5 hi ⟨s5, rfl⟩ eD
      have hi6 : i < xs.length := by omega
      refine ⟨rfl, yesT ⟨_, rfl, _, _, rfl, rfl, (show (2 : Int) ≠ 0 by decide), _, _, rfl, rfl, .inl ⟨by decide, by decide⟩, _, _, rfl, rfl, eD, ?_, fun H6 b6 e6 => ⟨s5.but hD b6, ?_⟩⟩⟩
      · rw [List.length_map]
        unfold sgn
        rw [List.length_map, List.length_range]
        exact len_big (by omega)
      · rw [sgn_snoc, List.map_append, Int.one_mul, Int.fmod_eq_emod_of_nonneg _ (by decide), Int.zero_add]
        rfl
    rintro acc H5 ⟨s5, rfl⟩ eD
    rw [show ((xs.length : Nat) : Int).toNat = xs.length by omega] at eD
    have e5 := s5 _ _ e3
    -- row % Row([-1, 1])
    have b1 : ∀ d ∈ ([-1, 1] : List Int), d.natAbs < 2 ^ 1 := by decide
    refine ⟨_, rfl, _, rfl, small (by show 2 ≤ _; omega), fun H6 l6 s6 n6 e6 => ⟨l6, [-1, 1], rfl, .inl (SqL.of e6), by decide, fun H7 r7 s7 hr7 => ?_⟩⟩
    refine rowModU (m := 100) (k := 1) (top := 1) (r' := [xs.sum]) (((hr3.same s5).same s6).same s7) hr7 rfl rfl (by omega) (by omega) hx b1 (by omega) ?_ (Nat.le_refl _) (fun w => by rw [← hor_one]; exact hor_div 1 w xs) fun H8 u8 s8 hu8 => ?_
    · refine Nat.le_trans (Nat.mul_le_mul (show _ ≤ 200 by omega) (show xs.length + 1 + 2 ≤ 10 by omega)) (by decide)
    refine ⟨_, rfl, small (by show 1 ≤ _; omega), fun H9 l9 s9 n9 e9 => ⟨l9, [xs.sum], rfl, .inl (SqL.of e9), by show 1 ≤ 1000000; omega, fun H10 r10 s10 hr10 => rowEq ((hu8.same s9).same s10) hr10 fun H11 s11 => ⟨_, rfl, iteNE rfl ?_⟩⟩⟩
    have s611 := s6.trans (s7.trans (s8.trans (s9.trans (s10.trans s11))))
    have hr11 := (hr3.same s5).same s611
    have e11 := s611 _ _ e5
    have eD11 := s611 _ _ eD
    -- row % Row([1, 1])
    have b2 : ∀ d ∈ ([1, 1] : List Int), d.natAbs < 2 ^ 1 := by decide
    refine ⟨_, rfl, small (by show 2 ≤ _; omega), fun H12 l12 s12 n12 e12 => ⟨l12, [1, 1], rfl, .inl (SqL.of e12), by decide, fun H13 r13 s13 hr13 => ?_⟩⟩
    refine rowModU (m := 100) (k := 1) (top := 1) (r' := [hor (-1) xs]) ((hr11.same s12).same s13) hr13 rfl rfl (by omega) (by omega) hx b2 (by omega) ?_ (Nat.le_refl _) (fun w => hor_div (-1) w xs) fun H14 u14 s14 hu14 => ?_
    · refine Nat.le_trans (Nat.mul_le_mul (show _ ≤ 200 by omega) (show xs.length + 1 + 2 ≤ 10 by omega)) (by decide)
    have s1114 := s12.trans (s13.trans s14)
    refine ⟨_, rfl, _, rfl, le, D, _, _, rfl, .inl ⟨SqL.of (s1114 _ _ e11), SqL.of (s1114 _ _ eD11), fun D2 H15 hD2 s15 e15 => ?_⟩⟩
    refine lcN_zipL (xs := xs.map V.int) (ys := (sgn xs.length).map V.int) (fun i acc H' => Same H14 H' ∧ acc = ((List.zipWith (· * ·) xs (sgn xs.length)).take i).map V.int) ⟨s15, rfl⟩ (fun i acc H' _ z _ => ⟨SqL.of (z.1 _ _ (s1114 _ _ e11)), SqL.of (z.1 _ _ (s1114 _ _ eD11))⟩) ?_ ?_
    · rintro i x y acc H16 H17 t hxi hyi ⟨s16, rfl⟩ eD2 s17 hT
      obtain ⟨u, hu, rfl⟩ := map_get hxi
      obtain ⟨v, hv, rfl⟩ := map_get hyi
      have hv1 : v = 1 ∨ v = -1 := by
        obtain ⟨k, _, rfl⟩ := List.mem_map.mp (List.mem_of_getElem? hv)
        omega
      refine g_pair hT ⟨rfl, yesT ⟨_, rfl, _, rfl, _, _, rfl, rfl, .inr (by rcases hv1 with rfl | rfl <;> exact ⟨by decide, by decide⟩), s17 _ _ eD2, ?_, fun H18 b18 e18 => ⟨(s16.trans s17).but hD2 b18, ?_⟩⟩⟩
      · rw [List.length_map, List.length_take]
        have := (List.getElem?_eq_some_iff.mp hu).1
        exact len_big (by rw [List.length_zipWith]; omega)
      · have e : (List.zipWith (· * ·) xs (sgn xs.length))[i]? = some (u * v) := by
          rw [List.getElem?_zipWith, hu, hv]
        rw [take_snoc e, List.map_append]
        rfl
    rintro acc H16 ⟨s16, rfl⟩ eD2
    have lsg : (sgn xs.length).length = xs.length := by unfold sgn; rw [List.length_map, List.length_range]
    rw [List.length_map, List.length_map, lsg, Nat.min_self, List.take_of_length_le (by rw [List.length_zipWith, lsg]; omega)] at eD2
    refine ⟨D2, _, rfl, SqL.of eD2, small (by show 1 ≤ _; omega), fun H17 l17 s17 n17 e17 => ⟨l17, [hor (-1) xs], rfl, .inl (SqL.of ?_), by show 1 ≤ 1000000; omega, fun H18 r18 s18 hr18 => rowEq (hu14.same (s16.trans (s17.trans s18))) hr18 fun H19 s19 => ⟨_, rfl, iteNE rfl ?_⟩⟩⟩
    · rw [e17]
      unfold sgn
      rw [hor_alt xs 1 (.inl rfl), Int.one_mul]
      rfl
    have s1119 := s1114.trans (s16.trans (s17.trans (s18.trans s19)))
    have hr19 := hr11.same s1119
    have e19 := s1119 _ _ e11
    have p19 := (p3.same s5).same (s611.trans s1119)
    clear hr11 e11 eD11 hr3 e3 e5 hr7 hu8 hr10 hr13 hu14 hr18 e17 eD2 e15 e12 e9 e6
    -- point
    refine ⟨_, rfl, pen, c, 31, 21, rfl, p19, by omega, by omega, by omega, fun H20 d20 k20 p20 lo20 hi20 => ⟨_, _, rfl, rfl, ?_⟩⟩
    have e20 := k20.lst (noPen_ints _) e19
    have hr20 := hr19.keep k20
    refine ⟨_, rfl, le, _, rfl, SqL.of e20, fun H21 l21 s21 n21 e21 => ⟨l21, rfl, ⟨_, SqL.of e21⟩, ?_⟩⟩
    rw [pick_rev, ← List.map_reverse] at e21
    refine for_list (xs := xs.reverse.map V.int) (fun i σ H' => ∃ z, σ = [some (.ref a), some (.ref pen), some (.ref le), some (.ref r), some (.int xs.sum), some (.ref D), none, none, none, some (.int (d20 - 10)), some (.int ((xs.reverse.take i).foldl (fun a x => a * (d20 - 10) + x) 0)), z, none, none, none, none, none, none, none, none] ∧ H' = H21) ⟨none, rfl, rfl⟩ (fun i σ H' _ z => by obtain ⟨_, _, rfl⟩ := z; exact SqL.of e21) ?_ ?_
    · rintro i x σ H' hxi ⟨z, rfl, rfl⟩
      obtain ⟨u, hu, rfl⟩ := map_get hxi
      refine ⟨_, rfl, _, rfl, _, _, rfl, rfl, .inr ⟨by omega, by omega⟩, _, rfl, _, _, rfl, rfl, some (.int u), ?_, rfl⟩
      rw [take_snoc hu, List.foldl_append]
      rfl
    rintro σ H' ⟨z11, rfl, rfl⟩
    rw [List.length_map, List.take_of_length_le (Nat.le_refl _), hor_fold]
    -- row % Row([-point, 1])
    have b3 : ∀ d ∈ ([-(d20 - 10), 1] : List Int), d.natAbs < 2 ^ 4 := by
      intro d hd
      rcases List.mem_cons.mp hd with rfl | hd
      · omega
      · rw [List.mem_singleton.mp hd]
        decide
    have e22 := s21 _ _ e20
    have hr22 := hr20.same s21
    refine ⟨_, rfl, _, rfl, _, rfl, small (by show 2 ≤ _; omega), fun H22 l22 s22 n22 e23 => ⟨l22, [-(d20 - 10), 1], rfl, .inl (SqL.of e23), by show 2 ≤ _; omega, fun H23 r23 s23 hr23 => ?_⟩⟩
    refine rowModU (m := 100) (k := 4) (top := 1) (r' := [hor (d20 - 10) xs]) ((hr22.same s22).same s23) hr23 rfl rfl (by omega) (by omega) hx b3 (by omega) ?_ (Nat.le_refl _) (fun w => hor_div (d20 - 10) w xs) fun H24 u24 s24 hu24 => ?_
    · refine Nat.le_trans (Nat.mul_le_mul (show _ ≤ 200 by omega) (show xs.length + 1 + 2 ≤ 10 by omega)) (by decide)
    refine ⟨_, rfl, small (by show 1 ≤ _; omega), fun H25 l25 s25 n25 e25 => ⟨l25, [hor (d20 - 10) xs], rfl, .inl (SqL.of e25), by show 1 ≤ 1000000; omega, fun H26 r26 s26 hr26 => rowEq ((hu24.same s25).same s26) hr26 fun H27 s27 => ⟨_, rfl, iteNE rfl ?_⟩⟩⟩
    have s2127 := s22.trans (s23.trans (s24.trans (s25.trans (s26.trans s27))))
    have e27 := s2127 _ _ e22
    have hr27 := hr22.same s2127
    have p27 := (p20.same s21).same s2127
    clear hr22 e22 hr23 e23 hr26 e25 hu24 e21
    -- turns
    refine ⟨_, rfl, 0, rfl, le, _, rfl, SqL.of e27, fun H28 l28 s28 n28 e28 => ?_⟩
    rw [pick_evens0, evens_map] at e28
    refine ⟨l28, _, rfl, SqL.of e28, _, rfl, 1, rfl, le, _, rfl, SqL.of (s28 _ _ e27), fun H29 l29 s29 n29 e29 => ?_⟩
    rw [pick_odds, odds_map] at e29
    refine ⟨l29, _, rfl, SqL.of e29, small (by show 2 ≤ _; omega), fun H30 l30 s30 n30 e30 => ?_⟩
    have s2730 := s28.trans (s29.trans s30)
    -- row % Row([-1, 0, 1])
    have b4 : ∀ d ∈ ([-1, 0, 1] : List Int), d.natAbs < 2 ^ 1 := by decide
    refine ⟨_, rfl, _, rfl, small (by show 3 ≤ _; omega), fun H31 l31 s31 n31 e31 => ⟨l31, [-1, 0, 1], rfl, .inl (SqL.of e31), by decide, fun H32 r32 s32 hr32 => ?_⟩⟩
    refine rowModU (m := 100) (k := 1) (top := 2) (r' := [(evens xs).sum, (odds xs).sum]) (((hr27.same s2730).same s31).same s32) hr32 rfl rfl (by omega) (by omega) hx b4 (by omega) ?_ (Nat.le_refl _) (fun w => two_div w xs) fun H33 u33 s33 hu33 => ?_
    · refine Nat.le_trans (Nat.mul_le_mul (show _ ≤ 200 by omega) (show xs.length + 1 + 3 ≤ 10 by omega)) (by decide)
    have s3033 := s31.trans (s32.trans s33)
    refine ⟨_, rfl, l30, [(evens xs).sum, (odds xs).sum], rfl, .inl (SqL.of (s3033 _ _ e30)), by show 2 ≤ 1000000; omega, fun H34 r34 s34 hr34 => rowEq (hu33.same s34) hr34 fun H35 s35 => ⟨_, rfl, iteNE rfl ?_⟩⟩
    have s2735 := s2730.trans (s3033.trans (s34.trans s35))
    have e35 := s2735 _ _ e27
    have hr35 := hr27.same s2735
    have p35 := p27.same s2735
    clear hr27 e27 hr32 e28 e29 e30 e31 hu33 hr34
    -- lanes
    refine ⟨_, rfl, pen, c, 32, 8, rfl, p35, by omega, by omega, by omega, fun H36 d36 k36 p36 lo36 hi36 => ?_⟩
    obtain ⟨m, rfl⟩ := Int.eq_ofNat_of_zero_le lo36
    have e36 := k36.lst (noPen_ints _) e35
    have hr36 := hr35.keep k36
    have hds : (List.replicate m (0 : Int) ++ [1]).length = m + 1 := by rw [List.length_append, List.length_replicate]; rfl
    have hdm : (List.replicate m (0 : Int) ++ [1]).getD m 0 = 1 := by
      rw [List.getD_eq_getElem?_getD, List.getElem?_append_right (by rw [List.length_replicate]; omega), List.length_replicate, Nat.sub_self]
      rfl
    have hdb : ∀ d ∈ List.replicate m (0 : Int) ++ [1], d.natAbs < 2 ^ 1 := by
      intro d hd
      rcases List.mem_append.mp hd with hd | hd
      · rw [(List.mem_replicate.mp hd).2]
        decide
      · rw [List.mem_singleton.mp hd]
        decide
    have mk : ∀ l : Addr, ∀ Hx : Hp, Hx l = some (.lst ((List.replicate (m : Int).toNat [V.int 0]).flatten ++ [V.int 1])) → Hx l = some (.lst ((List.replicate m (0 : Int) ++ [1]).map V.int)) := by
      intro l Hx e
      rw [e, rep0, Int.toNat_natCast, List.map_append]
      rfl
    refine ⟨_, rfl, small (by show 1 ≤ _; omega), fun H37 l37 s37 n37 e37 => ⟨_, rfl, l37, _, _, rfl, rfl, e37, by omega, by omega, small (by show 1 * _ ≤ _; omega), fun H38 l38 s38 n38 e38 => ⟨small (by show 1 ≤ _; omega), fun H39 l39 s39 n39 e39 => ⟨l38, l39, _, _, rfl, rfl, s39 _ _ e38, e39, ?_, fun H40 l40 s40 n40 e40 => ?_⟩⟩⟩⟩
    · rw [rep0, List.length_map, List.length_replicate]
      exact small (by show _ + 1 ≤ _; omega)
    have e40' := mk _ _ e40
    refine ⟨l40, _, rfl, .inl (SqL.of e40'), by omega, fun H41 r41 s41 hr41 => ?_⟩
    have s3641 := s37.trans (s38.trans (s39.trans (s40.trans s41)))
    refine rowModU (m := 100) (k := 1) (top := m) (r' := xs.take m) (hr36.same s3641) hr41 hds hdm (by omega) (by omega) hx hdb (by omega) ?_ (by rw [List.length_take]; omega) (fun w => up_div xs m w) fun H42 u42 s42 hu42 => ?_
    · refine Nat.le_trans (Nat.mul_le_mul (show _ ≤ 200 by omega) (show xs.length + 1 + _ ≤ 20 by omega)) (by decide)
    have hr42 := (hr36.same s3641).same s42
    obtain ⟨d42, t42, g42, _⟩ := id hr42
    have ls := stp_length xs
    refine ⟨_, rfl, r, d42, _, rfl, g42, rowF_none _ (by decide +kernel), _, rfl, r, m, stp xs, rfl, hr42, by omega, fun H43 u43 s43 hu43 => ?_⟩
    rw [stp_take] at hu43
    refine rowEq (hu42.same s43) hu43 fun H44 s44 => ⟨_, rfl, iteNE rfl ?_⟩
    have s3644 := s3641.trans (s42.trans (s43.trans s44))
    have hr44 := hr36.same s3644
    refine ⟨_, rfl, small (by show 1 ≤ _; omega), fun H45 l45 s45 n45 e45 => ⟨_, rfl, l45, _, _, rfl, rfl, e45, by omega, by omega, small (by show 1 * _ ≤ _; omega), fun H46 l46 s46 n46 e46 => ⟨small (by show 1 ≤ _; omega), fun H47 l47 s47 n47 e47 => ⟨l46, l47, _, _, rfl, rfl, s47 _ _ e46, e47, ?_, fun H48 l48 s48 n48 e48 => ?_⟩⟩⟩⟩
    · rw [rep0, List.length_map, List.length_replicate]
      exact small (by show _ + 1 ≤ _; omega)
    refine ⟨l48, _, rfl, .inl (SqL.of (mk _ _ e48)), by omega, fun H49 r49 s49 hr49 => ?_⟩
    have s4449 := s45.trans (s46.trans (s47.trans (s48.trans s49)))
    refine rowDivU (m := 100) (k := 1) (top := m) (q' := xs.drop m) (r' := xs.take m) (hr44.same s4449) hr49 hds hdm (by omega) (by omega) hx hdb (by omega) (by rw [List.length_take]; omega) (fun w => up_div xs m w) fun H50 u50 s50 hu50 => ?_
    have hr50 := (hr44.same s4449).same s50
    obtain ⟨d50, t50, g50, _⟩ := id hr50
    refine ⟨_, rfl, r, d50, _, rfl, g50, rowF_none _ (by decide +kernel), _, rfl, r, m, stp xs, rfl, hr50, by omega, fun H51 u51 s51 hu51 => ?_⟩
    rw [stp_drop] at hu51
    refine rowEq (hu50.same s51) hu51 fun H52 s52 => ⟨_, rfl, iteNE rfl ?_⟩
    have s3652 := s3644.trans (s4449.trans (s50.trans (s51.trans s52)))
    have e52 := s3652 _ _ e36
    have hr52 := hr36.same s3652
    have p52 := p36.same s3652
    clear hr35 e35 hr36 e36 hr42 hr44 hr41 hr49 hr50 hu42 hu43 hu50 hu51 e37 e38 e39 e40 e40' e45 e46 e47 e48 g42 g50 mk hds hdm hdb
    -- above
    refine ⟨_, rfl, le, _, rfl, .inl (SqL.of e52), _, rfl, by rw [List.length_map]; omega, by rw [List.length_map]; omega, fun D3 H53 hD3 s53 e53 => ?_⟩
    rw [List.length_map]
    refine lcN_range (fun i acc H' => Same H52 H' ∧ acc = ((horQ 1 xs).take i).map V.int) ⟨s53, rfl⟩ ?_ ?_
    · rintro i acc H54 hi ⟨s54, rfl⟩ eD3
      have hi6 : i < xs.length := by omega
      refine ⟨rfl, yesT ⟨_, rfl, _, rfl, _, _, rfl, rfl, _, rfl, le, _, rfl, SqL.of (s54 _ _ e52), fun H55 l55 s55 n55 e55 => ?_⟩⟩
      rw [show (0 : Int) + (i : Int) + 1 = ((i + 1 : Nat) : Int) by omega, cut_from, ← List.map_drop] at e55
      refine ⟨l55, _, rfl, SqL.of e55, s55 _ _ eD3, ?_, fun H56 b56 e56 => ⟨(s54.trans s55).but hD3 b56, ?_⟩⟩
      · rw [List.length_map, List.length_take]
        exact len_big (by omega)
      · rw [take_snoc (horQ_get 1 xs i hi6), List.map_append, hor_one]
        rfl
    rintro acc H54 ⟨s54, rfl⟩ eD3
    rw [show ((xs.length : Nat) : Int).toNat = xs.length by omega, List.take_of_length_le (by rw [horQ_length]; exact Nat.le_refl _)] at eD3
    have hr54 := hr52.same s54
    refine ⟨_, rfl, _, rfl, small (by show 2 ≤ _; omega), fun H55 l55 s55 n55 e55 => ⟨l55, [-1, 1], rfl, .inl (SqL.of e55), by decide, fun H56 r56 s56 hr56 => ?_⟩⟩
    refine rowDivU (m := 100) (k := 1) (top := 1) (q' := horQ 1 xs) (r' := [hor 1 xs]) ((hr54.same s55).same s56) hr56 rfl rfl (by omega) (by omega) hx b1 (by omega) (Nat.le_refl _) (fun w => hor_div 1 w xs) fun H57 u57 s57 hu57 => ?_
    have s5457 := s55.trans (s56.trans s57)
    refine ⟨_, rfl, D3, _, rfl, .inl (SqL.of (s5457 _ _ eD3)), by rw [horQ_length]; omega, fun H58 r58 s58 hr58 => rowEq (hu57.same s58) hr58 fun H59 s59 => ⟨_, rfl, iteNE rfl ?_⟩⟩
    have s5259 := s54.trans (s5457.trans (s58.trans s59))
    have e59 := s5259 _ _ e52
    have hr59 := hr52.same s5259
    have p59 := p52.same s5259
    clear hr52 e52 hr54 hr56 hu57 hr58 eD3 e55 e53
    -- the turns
    refine ⟨_, rfl, by decide, by decide, for_range (lo := 0) (n := (4 : Int).toNat) (fun i σ H' => ∃ z15 z16 z17 z18 z19, σ = [some (.ref a), some (.ref pen), some (.ref le), some (.ref r), some (.int xs.sum), some (.ref D), none, none, none, some (.int (d20 - 10)), some (.int (hor (d20 - 10) xs)), z11, some (.ref l30), some (.int m), some (.ref D3), z15, z16, z17, z18, z19] ∧ Keep H59 H' ∧ Pn H' pen c (33 + 3 * i)) ⟨none, none, none, none, none, rfl, Keep.refl _, p59⟩ ?_ ?_⟩
    · rintro i σ Ha hi ⟨z15, z16, z17, z18, z19, rfl, ka, pa⟩
      have hi4 : i < 4 := hi
      refine ⟨_, rfl, small (by show 3 ≤ _; omega), fun Hb l sb nb eb => ?_⟩
      refine ⟨_, rfl, pen, c, 33 + 3 * i, 3, rfl, pa.same sb, by omega, by omega, by omega, fun Hc dc kc pc loc hic => ?_⟩
      have ec : Hc l = some (.lst ([6, 70, 110].map V.int)) := kc.lst (noPen_ints [6, 70, 110]) eb
      obtain ⟨v, av, mv⟩ := at_mem (l := [6, 70, 110].map V.int) loc hic
      obtain ⟨m6, mm, rfl⟩ := List.mem_map.mp mv
      have hm6 : 1 ≤ m6 ∧ m6 ≤ 110 := by
        simp only [List.mem_cons, List.not_mem_nil, or_false] at mm
        omega
      refine ⟨_, _, _, _, rfl, rfl, SqL.of ec, av, ?_⟩
      refine ⟨pen, c, 33 + 3 * i + 1, m6, rfl, pc, by omega, hm6.1, by omega, fun Hd dd kd pd lod hid => ?_⟩
      refine ⟨_, _, rfl, rfl, ?_⟩
      have kkd : Keep H59 Hd := ka.trans ((keep_of sb).trans (kc.trans kd))
      refine ⟨fun σ' H' => ∃ b : Nat, σ' = [some (.ref a), some (.ref pen), some (.ref le), some (.ref r), some (.int xs.sum), some (.ref D), none, none, none, some (.int (d20 - 10)), some (.int (hor (d20 - 10) xs)), z11, some (.ref l30), some (.int m), some (.ref D3), some (.int ((0 : Int) + (i : Int))), some (.int b), z17, z18, z19] ∧ Keep H59 H' ∧ Pn H' pen c (33 + 3 * i + 3) ∧ 2 ≤ b ∧ b ≤ 5001, ?_, ?_⟩
      · refine ⟨_, rfl, rfl, _, rfl, iteB (fun _ => ?_) fun _ => ?_⟩
        · refine ⟨_, rfl, pen, c, 33 + 3 * i + 2, 1000, rfl, pd, by omega, by omega, by omega, fun He de ke pe loe hie => ?_⟩
          refine ⟨_, _, rfl, rfl, (4001 + de).toNat, ?_, kkd.trans ke, pe, by omega, by omega⟩
          rw [Int.toNat_of_nonneg (by omega)]
          rfl
        · refine ⟨(2 + dd).toNat, ?_, kkd, pd.mono (by omega), by omega, by omega⟩
          rw [Int.toNat_of_nonneg (by omega)]
          rfl
      rintro σ' Hf ⟨b, rfl, kf, pf, hb1, hb2⟩
      have hrf := hr59.keep kf
      have ef := kf.lst (noPen_ints _) e59
      have ls := stp_length xs
      have bl : b * (stp xs).length ≤ 5001 * 6 := Nat.mul_le_mul hb2 (by omega)
      have bd : b * ([-1, 1] : List Int).length ≤ 5001 * 2 := Nat.mul_le_mul_right _ hb2
      have hB2 : (2 : Int) ≤ 2 ^ b := by
        obtain ⟨k, rfl⟩ : ∃ k, b = k + 1 := ⟨b - 1, by omega⟩
        rw [Int.pow_succ]
        have := pw k
        omega
      have ev : val [-1, 1] b = 2 ^ b - 1 := by
        show -1 + 2 ^ b * (1 + 2 ^ b * 0) = _
        rw [Int.mul_zero, Int.add_zero, Int.mul_one]
        omega
      have ev1 : 1 ≤ val [-1, 1] b := by rw [ev]; omega
      have ev2 : ∀ N, 5001 < N → (val [-1, 1] b).natAbs < 2 ^ N := fun N hN => by
        have h1 := Nat.pow_lt_pow_right (a := 2) (by decide) (show b < N by omega)
        have h2 : (2 : Int) ^ b = ((2 ^ b : Nat) : Int) := by rw [Int.natCast_pow] <;> rfl
        rw [ev, h2]
        generalize 2 ^ b = A at *
        generalize 2 ^ N = B at *
        omega
      -- size, rest
      refine ⟨_, rfl, _, _, rfl, rfl, shl_ok (i := 1) (n := 1) (by decide) (by omega), ?_⟩
      refine ⟨_, rfl, _, rfl, r, b, 100, stp xs, rfl, hrf, by omega, stp_small hx, by omega, by omega, fun Hg ug sg hug => ?_⟩
      obtain ⟨dg, gg⟩ := id hug
      refine ⟨ug, dg, _, rfl, gg, packF_none _ _ (by decide +kernel) (by decide +kernel), _, rfl, small (by show 2 ≤ _; omega), fun Hh lh sh nh eh => ⟨lh, [-1, 1], rfl, .inl (SqL.of eh), by decide, fun Hi ri si hri => ?_⟩⟩
      rw [stp_monic (ds := [-1, 1]) (top := 1) rfl rfl] at hri
      refine ⟨ug, ri, b, 1, _, [-1, 1], rfl, (hug.same sh).same si, hri, by decide, b1, by omega, by omega, ev1, ev2 9000 (by decide), fun Hj uj sj huj => ?_⟩
      obtain ⟨dj, gj⟩ := id huj
      refine ⟨uj, _, _, _, _, rfl, gj, T.cl_Pack, T.n_Pack_number, packF_n _ _, ?_⟩
      have sfj := sg.trans (sh.trans (si.trans sj))
      have eR : val (stp xs) b % val [-1, 1] b = xs.sum % (2 ^ b - 1) := by rw [val_stp, ev, val_mod]
      have eN : ((b : Nat) : Int).toNat = b := Int.toNat_natCast b
      refine ⟨_, rfl, _, rfl, _, rfl, _, _, rfl, rfl, _, _, rfl, rfl, ?_, rfl, _, rfl, iteNS ?_ ?_⟩
      · show (1 : Int) * 2 ^ ((b : Nat) : Int).toNat - 1 ≠ 0
        rw [eN]
        omega
      · show V.int _ = V.int (xs.sum.fmod ((1 : Int) * 2 ^ ((b : Nat) : Int).toNat - 1))
        rw [eR, eN, Int.one_mul, Int.fmod_eq_emod_of_nonneg _ (by omega)]
      refine (fun g => ⟨_, rfl, _, rfl, rfl, _, rfl, _, _, rfl, rfl, _, rfl, iteB (fun h0 => ⟨_, rfl, _, _, rfl, rfl, _, _, rfl, rfl, rfl, _, rfl, iteNS ?e1 g⟩) fun h0 => ⟨rfl, _, rfl, iteNS ?e2 g⟩⟩) ?ct
      case e1 =>
        show V.bl (decide (V.int (val (stp xs) b % val [-1, 1] b) = V.int xs.sum)) = V.bl (decide (xs.sum ≤ (1 : Int) * 2 ^ ((b : Nat) : Int).toNat - 2))
        rw [eR, eN, Int.one_mul]
        congr 1
        refine decide_eq_decide.mpr ⟨fun h => ?_, fun h => ?_⟩
        · have h1 := V.int.inj h
          have h2 := Int.emod_lt_of_pos xs.sum (show (0 : Int) < 2 ^ b - 1 by omega)
          omega
        · rw [Int.emod_eq_of_lt h0 (by omega)]
      case e2 =>
        show V.bl (decide (V.int (val (stp xs) b % val [-1, 1] b) = V.int xs.sum)) = V.bl false
        rw [eR, decide_eq_false]
        intro h
        have h1 := V.int.inj h
        have h2 := Int.emod_nonneg xs.sum (show (2 : Int) ^ b - 1 ≠ 0 by omega)
        omega
      have hrj := hrf.same sfj
      have ej := sfj _ _ ef
      -- whole
      refine ⟨_, rfl, le, _, rfl, .inl (SqL.of ej), _, rfl, by rw [List.length_map]; omega, by rw [List.length_map]; omega, fun D4 Hk hD4 sk ek => ?_⟩
      refine lcN_range (fun j acc H' => Same Hj H' ∧ acc = ((trms xs b).take j).map V.int) ⟨sk, rfl⟩ ?_ ?_
      · rintro j acc Hl hj ⟨sl, rfl⟩ eD4
        rw [List.length_map] at hj
        have hjx : j < xs.length := by omega
        have ejj : ((b : Nat) : Int) * ((0 : Int) + (j : Int)) = ((b * j : Nat) : Int) := by rw [Int.zero_add, Int.natCast_mul]
        have hwj : b * j ≤ 5001 * 6 := Nat.mul_le_mul hb2 (by omega)
        refine ⟨rfl, yesT ⟨_, rfl, _, rfl, _, _, _, _, rfl, rfl, SqL.of (sl _ _ ej), at_ints (n := j) (by omega) hjx, _, rfl, _, rfl, _, _, rfl, rfl, .inl ⟨by omega, by omega⟩, _, _, rfl, rfl, ?_, _, _, rfl, rfl, ?_, eD4, ?_, fun Hm bm em => ⟨sl.but hD4 bm, ?_⟩⟩⟩
        · rw [ejj]
          exact shl_ok (i := 1) (n := 1) (by decide) (by omega)
        · rw [ejj]
          have e1 := log_le (getD_small (Nat.pow_pos (by decide)) hx j)
          have e2 : ((1 : Int) * 2 ^ ((b * j : Nat) : Int).toNat).natAbs.log2 ≤ b * j + 1 := log_le (by
            rw [Int.one_mul, Int.toNat_natCast, Int.natAbs_pow]
            exact Nat.pow_lt_pow_right (by decide) (Nat.lt_succ_self _))
          show _ + _ < 1000000
          omega
        · rw [List.length_map, List.length_take, trms_length]
          exact len_big (by omega)
        · rw [take_snoc (trms_get hjx), List.map_append]
          show _ ++ [V.int (xs.getD j 0 * ((1 : Int) * 2 ^ (((b : Nat) : Int) * ((0 : Int) + (j : Int))).toNat))] = _
          rw [ejj, Int.toNat_natCast, Int.one_mul]
          rfl
      rintro acc Hl ⟨sl, rfl⟩ eD4
      rw [List.take_of_length_le (by rw [trms_length, List.length_map]; omega)] at eD4
      refine ⟨D4, _, rfl, SqL.of eD4, ?_⟩
      -- over
      have hrl := hrj.same sl
      refine ⟨_, rfl, _, rfl, r, b, 100, stp xs, rfl, hrl, by omega, stp_small hx, by omega, by omega, fun Hm um sm hum => ?_⟩
      obtain ⟨dm, gm⟩ := id hum
      refine ⟨um, dm, _, rfl, gm, packF_none _ _ (by decide +kernel) (by decide +kernel), _, rfl, small (by show 2 ≤ _; omega), fun Hn ln sn nn en => ⟨ln, [-1, 1], rfl, .inl (SqL.of en), by decide, fun Ho ro so hro => ?_⟩⟩
      rw [stp_monic (ds := [-1, 1]) (top := 1) rfl rfl] at hro
      refine ⟨um, ro, b, 1, _, [-1, 1], rfl, (hum.same sn).same so, hro, by decide, b1, by omega, by omega, ev1, ev2 9000 (by decide), fun Hp up sp hup => ?_⟩
      obtain ⟨dp, gp⟩ := id hup
      refine ⟨up, _, _, _, _, rfl, gp, T.cl_Pack, T.n_Pack_number, packF_n _ _, _, rfl, _, _, rfl, rfl, _, _, rfl, rfl, ?_, _, rfl, _, _, rfl, rfl, _, rfl, rfl, _, rfl, iteNS ?_ ?_⟩
      · have v1 := log_le (Nat.lt_of_le_of_lt (Int.natAbs_ediv_le_natAbs (val (stp xs) b) (val [-1, 1] b)) (val_small (w := b) (stp xs) (stp_small hx)))
        have v2 : (b + 1) * (stp xs).length ≤ 5002 * 6 := Nat.mul_le_mul (by omega) (by omega)
        have v3 : ((1 : Int) * 2 ^ ((b : Nat) : Int).toNat - 1).natAbs.log2 ≤ b := by
          rw [Int.one_mul, eN, ← ev]
          refine log_le ?_
          have h2 : (2 : Int) ^ b = ((2 ^ b : Nat) : Int) := by rw [Int.natCast_pow] <;> rfl
          rw [ev, h2]
          have := Nat.pow_pos (n := b) (show 0 < 2 by decide)
          generalize 2 ^ b = A at *
          omega
        show _ + _ < 1000000
        omega
      · show V.int (val (stp xs) b / val [-1, 1] b * ((1 : Int) * 2 ^ ((b : Nat) : Int).toNat - 1) + val (stp xs) b % val [-1, 1] b) = V.int (trms xs b).sum
        rw [Int.one_mul, eN, ← ev, sum_trms, Int.mul_comm, Int.mul_ediv_add_emod, val_stp]
      exact ⟨_, _, _, _, _, rfl, kf.trans (keep_of (sfj.trans (sl.trans (sm.trans (sn.trans (so.trans sp)))))), (pf.same (sfj.trans (sl.trans (sm.trans (sn.trans (so.trans sp)))))).mono (by omega)⟩
    · rintro σ H' ⟨z15, z16, z17, z18, z19, rfl, _, _⟩
      exact q H'
end
end Pl

set_option Elab.async false
set_option linter.all false
set_option maxRecDepth 100000
set_option maxHeartbeats 0
namespace Pl
open PySem PySem.Spec PyProof.Rows L2 RZ
abbrev R : PySem.W.OpenRow := PySem.W.OpenLaw.row PySem.Challenge.rw_packedlanes_k11_whole_casting_out
def loose : List Str := (["_wall", "LanesError", "BadWidth", "BadLanes", "NotMonic", "OtherWidth", "NotPositive", "_SHORT_WORDS", "_FEW_ENTRIES", "_SHORT_BITS", "check_lanes", "check_width", "stripped", "added", "negated", "joined", "cut_in_two", "plain_digits", "balanced_size", "balanced_digits", "_words", "_greatest_bits", "_product_width", "_product_steps", "_packing_pays", "_product_by_pairs", "product", "_quotient_by_lanes", "quotient", "quotient_and_rest"] : List Str) ++ (["rest_row", "divided", "_divided_by_top", "Row", "_check_monic", "Pack", "_check_same_width", "_divided_by_row", "packed", "_law_start", "_law_draw", "_law_number", "_law_list"] : List Str)
abbrev hk : PySem.W.Hook := hookB 5 fa fnD ex
def ob (s : PySem.W.SharedT) : AlB := obsB 5 fa fnD ex (HandSHeadRun.getT s)
theorem ob_eq (s : PySem.W.SharedT) : ob s = hk.obs s.abs := obsB_eq (HandSHeadRun.getT_eq s)
theorem run (w : World) : HandSHeadRun.RunEq R (PySem.W.view R.prog [48]) hk ob 40000 loose w := by
  intro os
  kernel_rfl
end Pl
open PySem PySem.W PySem.Calls PyProof.Rows
set_option maxHeartbeats 0 in
theorem PySem.Challenge.cw_packedlanes_k11_whole_casting_out_holds : PySem.Challenge.rw_packedlanes_k11_whole_casting_out.Holds := by
  w_on; o_law
  refine HandSHeadRun.head_any (r := OpenLaw.row PySem.Challenge.rw_packedlanes_k11_whole_casting_out) (q := view (OpenLaw.row PySem.Challenge.rw_packedlanes_k11_whole_casting_out).prog [48]) (H := Pl.hk) (ob := Pl.ob) (M := 40000) (loose := Pl.loose) (d := HandSHeadRun.topDef (OpenLaw.row PySem.Challenge.rw_packedlanes_k11_whole_casting_out).prog 48) (kwd := []) Pl.ob_eq
    (by kernel_rfl) (fun s => by kernel_rfl) Pl.run (by kernel_rfl) (by kernel_rfl) (by kernel_rfl) (by rfl) (by first | assumption | decide +kernel) (by decide +kernel) ⟨rfl, rfl, rfl, rfl, rfl, by decide +kernel⟩ ?hw ?hc
  case hw => w_witness2
  case hc =>
    refine L2.walk_ofEB (l := PySem.Challenge.rw_packedlanes_k11_whole_casting_out) (n := 63) (k := 10) (x := "script") (CX := L2.CX0) rfl (by decide) (by kernel_rfl) ⟨rfl, by decide, by decide⟩ ?F (fun _ _ _ _ z => z)
    intro w mg fa h Y G hmg0
    obtain ⟨K, KX, c⟩ := Y
    have hmg : mg ("law" : PySem.Str) = some (.ref fa) := by
      have e : (HandSHeadRun.topDef (OpenLaw.row PySem.Challenge.rw_packedlanes_k11_whole_casting_out).prog 48).name = ("law" : PySem.Str) := by kernel_rfl
      rw [← e]
      exact hmg0
    have T := Pl.txt_of KX G c
    have e := hmg.symm.trans T.m_law
    cases e
    exact ⟨K, T.d_law, Pl.spLaw K, KX, T.ba_law, fun H a ns hl _ _ hS => ⟨a, ns, rfl, hS, hl, fun _ => rfl⟩, fun base _ _ => Pl.ok_law T⟩
